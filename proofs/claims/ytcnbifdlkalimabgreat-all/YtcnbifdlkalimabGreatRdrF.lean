/- Lemmas; their conditions stand in each. -/
import Derived.Test.YtcnbifdlkalimabGreatRdrG
namespace Go.Proofs.YtcnbifdlkalimabGreat
open Go.RowKit Go.Proofs.Tryz
set_option linter.all false
set_option maxRecDepth 100000
set_option maxHeartbeats 6400000
variable{ex:List Ex}{l:List Nat}{sm:List Sm}{pl:Nat}
theorem Hw(V:ZB)(w:World)(h:V.size<=100000):Calls prog 50 #[.string V] w λe b=>e=.returned (.int .i64 (V.size/2:Nat))∧b=w:=by
 have c:(V.size:Int)<=100000:=by omega
 have a:((V.size/2:Nat):Int)=(V.size:Int)/2:=by omega
 rw[a];go_in;go_wp2;go_ret;exact⟨by simp,rfl⟩
theorem Te(f:Nat->Nat->List Int)(b:∀n pl,(f n pl).length%2=0)(c:List Nat):∀(a:List Nat) (pl:Nat),Cm f (a++c) pl=Cm f a pl++Cm f c (pl+(Cm f a pl).length/2)
 | [],pl=>by simp[Cm]
 | n::a,pl=>by have d:=b n pl;have e:=KW f b a (pl+(f n pl).length/2);simp only[Uj,Cm];rw[Te f b c a,QE,Qe,show pl+(f n pl).length/2+(Cm f a (pl+(f n pl).length/2)).length/2=pl+((f n pl).length+(Cm f a (pl+(f n pl).length/2)).length)/2 from by omega]
theorem Zpg{i:Nat}(a:i<l.length):Bn ex sm (l.take (i+1)) pl=Bn ex sm (l.take i) pl++one ex sm l[i] (pl+(Bn ex sm (l.take i) pl).length/2):=by unfold Bn;rw[List.take_succ_eq_append_getElem a];exact MV (one ex sm) l[i] (l.take i) pl (Ln ex sm)
theorem Zsk(i:Nat):(Bn ex sm (l.take i) pl).length<=(Bn ex sm l pl).length:=by have h:=Te (one ex sm) (Ln ex sm) (l.drop i) (l.take i) pl;rw[List.take_append_drop]at h;unfold Bn;rw[h,Qe];omega
theorem Jf(g:BA ex)(b:BY ex sm){n:Nat}{x:Sm}(c:sm[n]?=some x) :
  one ex sm n pl=(if x.k=61 then AQ ex x.e++[2,x.v%256] else if x.k=62 then AQ ex x.e++[11,x.v%256] else
   (if x.k=64 then AQ ex x.e++[9,((pl+(AQ ex x.e).length/2+1+(Bn ex sm x.bo (pl+(AQ ex x.e).length/2+1)).length/2+1:Nat):Int)%256]++Bn ex sm x.bo (pl+(AQ ex x.e).length/2+1)++[8,(pl:Int)%256]
   else if x.two=false then AQ ex x.e++[9,((pl+(AQ ex x.e).length/2+1+(Bn ex sm x.bo (pl+(AQ ex x.e).length/2+1)).length/2:Nat):Int)%256]++Bn ex sm x.bo (pl+(AQ ex x.e).length/2+1)
   else AQ ex x.e++[9,((pl+(AQ ex x.e).length/2+1+(Bn ex sm x.bo (pl+(AQ ex x.e).length/2+1)).length/2+1:Nat):Int)%256]++Bn ex sm x.bo (pl+(AQ ex x.e).length/2+1)++[8,((pl+(AQ ex x.e).length/2+1+(Bn ex sm x.bo (pl+(AQ ex x.e).length/2+1)).length/2+1+(Bn ex sm x.el (pl+(AQ ex x.e).length/2+1+(Bn ex sm x.bo (pl+(AQ ex x.e).length/2+1)).length/2+1)).length/2:Nat):Int)%256]++Bn ex sm x.el (pl+(AQ ex x.e).length/2+1+(Bn ex sm x.bo (pl+(AQ ex x.e).length/2+1)).length/2+1))):=by
 have o:n<sm.length:=(Ql.1 c).1;obtain⟨j,d,f⟩:=b n x c;unfold one;simp only[Ed,c];have h:∀pl,Cm (Ed ex sm n) x.bo pl=Bn ex sm x.bo pl:=λpl=>all_any g b λm a=>⟨by have:=d m a;omega,d m a⟩
 have i:∀pl,Cm (Ed ex sm n) x.el pl=Bn ex sm x.el pl:=λpl=>all_any g b λm a=>⟨by have:=f m a;omega,f m a⟩
 simp only[h,i]
theorem BD.step{w w':World}{B:Nat}{S:Nat->Value}{v:Value}(h:BD w B S v l)(a:Below w.heap.size w w'):BD w' B S v l:=⟨Zo h.1 a,h.2⟩
def HV(rb sb B:Nat)(s tb:ZB)(tp:Value)(p:Rs)(S:Nat->Value)(sv:List (Value×Value))(k:Nat):Prop:=∀(n pl:Nat) (w:World),n<k->YB w rb sb B s p tb tp S sv->n<p.sm.length->pl+(one p.ex p.sm n pl).length<=20000->
 Calls prog 107 #[.pointer (some ⟨sb,0,none⟩),.int .i64 n,.int .i64 pl] w λen w'=>en=.returned (.string (bs (one p.ex p.sm n pl)))∧Below w.heap.size w w'
theorem Lj(rb sb B:Nat)(s tb:ZB)(tp:Value)(p:Rs)(S:Nat->Value)(sv:List (Value×Value))(k:Nat)(ih:Kp (HV rb sb B s tb tp p S sv k))(l:List Nat)(v:Value)(pl:Nat)(w:World)(H:YB w rb sb B s p tb tp S sv)(P:BD w B S v l)(T:∀n∈l,n<k∧n<p.sm.length)(Q:pl+(Bn p.ex p.sm l pl).length<=20000)(G:l.length<=20000) :
  Calls prog 49 #[.pointer (some ⟨sb,0,none⟩),v,.int .i64 pl] w λA M=>A=.returned (.string (bs (Bn p.ex p.sm l pl)))∧Below w.heap.size w M:=by
 have ah:=H.lt;rcases P.1.2 with ⟨rfl,h0⟩|⟨g,U,af,rfl,_⟩
 ·have z:l=[]:=Uk h0;subst z;clear H P T Q G ih;go_in;go_wp2_with fail;go_loopw [7,8] (λX L wr=>X=.string ⟨#[]⟩∧L=.int .i64 0∧Kp (wr=w)) (λ_ _ _=>0);case atStart=>exact⟨rfl,rfl,⟨rfl⟩⟩
  case round=>obtain⟨rfl,rfl,hw⟩:=hrel;go_wp2;go_ret;exact⟨rfl,by rw[hw.o];exact Qh _ _⟩
 ·have C:Kp (BD w B S (.slice (some ⟨g,0,none⟩) l.length U) l):=⟨P⟩
  have H':Kp _:=⟨H⟩
  replace T:=Z_ T;replace Q:=Z_ Q;obtain⟨m,R⟩:∃m,l.length=m:=⟨_,rfl⟩
  rw[R]at G C ⊢;clear H P;go_in;go_wp2_with fail;go_loopw [7,8] (λX L wr=>∃i:Nat,i<=m∧X=.string (bs (Bn p.ex p.sm (l.take i) pl))∧L=.int .i64 i∧Kp (Below w.heap.size w wr)) (λ_ L _=>m-(intOf L).toNat);case atStart=>exact⟨0,by omega,rfl,rfl,⟨Qh _ _⟩⟩
  case round=>
   obtain⟨i,ag,rfl,rfl,F⟩:=hrel;by_cases hi:i<m
   ·have ab:(i:Int)<(m:Int):=by omega
    have u:i<l.length:=by omega
    have b:=T.o l[i] (Ua u);have hA:=H'.o.step F.o;have r:=C.o.step F.o;have hc:wr.cell? ⟨g,i,none⟩=some (.int .i64 (l[i]:Nat)):=by have h:=r.1;rw[R]at h;rw[h.cellAt i (by omega)];unfold IE;rw[Ui,Qn u];rfl
    have aa:g<wr.heap.size:=by have h:=r.1;rw[R]at h;exact(h.lt g rfl).2
    have d:=Zpg (ex:=p.ex) (sm:=p.sm) (pl:=pl) u;have a:=Zsk (ex:=p.ex) (sm:=p.sm) (l:=l) (pl:=pl) (i+1);rw[d,Qe]at a;obtain⟨q,hq⟩:∃q,pl+(Bn p.ex p.sm (l.take i) pl).length/2=q:=⟨_,rfl⟩
    rw[hq]at d a;have I:=Q.o;have ad:q<=40000:=by omega
    have ai:pl<=20000:=by omega
    obtain⟨V,f⟩:∃V,bs (Bn p.ex p.sm (l.take i) pl)=V:=⟨_,rfl⟩
    have E:V.size=(Bn p.ex p.sm (l.take i) pl).length:=by rw[<-f,Zd]
    obtain⟨n,J⟩:∃n,l[i]=n:=⟨_,rfl⟩
    rw[J]at b hc d a;obtain⟨y,j⟩:∃y,bs (one p.ex p.sm n q)=y:=⟨_,rfl⟩
    have D:y.size=(one p.ex p.sm n q).length:=by rw[<-j,Zd]
    have Y:Kp (∀W,Below wr.heap.size wr W->Calls prog 107 #[.pointer (some ⟨sb,0,none⟩),.int .i64 (n:Nat),.int .i64 (q:Nat)] W λA M=>A=.returned (.string y)∧Below W.heap.size W M):=⟨λW Z=>by
     rw[<-j];exact ih.o n q W b.1 (hA.step Z) b.2 (by omega)⟩
    obtain⟨hh,t⟩:∃hh,V.size/2=hh:=⟨_,rfl⟩
    have e:=λW=>Hw V W (by omega);rw[t]at e;have c:bs (Bn p.ex p.sm (l.take (i+1)) pl)=V++y:=by rw[d,Zg,f,j]
    have K:(pl:Int)+(hh:Int)=(q:Int):=by rw[<-t,<-hq,E];omega
    rw[f];have q1:¬9223372036854775807<V.size+y.size:=by omega
    have N:=(CY (x:=(q:Int)) (by omega) (by omega)).1;have O:=(CY (x:=(q:Int)) (by omega) (by omega)).2;replace e:=Z_ e;replace c:=Z_ c;replace N:=Z_ N;replace O:=Z_ O;have Ic:Kp (∀W,Below wr.heap.size wr W->W.cell? ⟨g,i,none⟩=some (.int .i64 (n:Nat))):=⟨λW Z=>by rw[Z.cell (p:=⟨g,i,none⟩) aa];exact hc⟩
    clear hA r d a hq I ad f E j D t b J;go_wp2_with fail;replace N:=N.o;replace O:=O.o;go_region_held3 (λM=>M.cell? ⟨g,i,none⟩=some (.int .i64 (n:Nat))) (go_keep) (first
     | (go_at_call 50;refine(e.o _).mono ?_;rintro A w4 ⟨rfl,ae⟩;subst ae)
     | (go_at_call 107;refine(Y.o _ (by first|exact(Qh _ _).drew|assumption)).mono ?_;rintro A w5 ⟨rfl,bb⟩;have bn:Below wr.heap.size wr w5:=(Qh _ _).drew.trans bb;have oc:=Ic.o _ bn;clear bb))
    all_goals
     clear oc N O K;go_wp2_with fail;go_roundw;case rel=>exact⟨i+1,by omega,by rw[<-c.o],by go_num,⟨F.o.trans (bn.mono F.o.size)⟩⟩
     case measure=>simp[intOf];omega
   ·have ab:¬(i:Int)<(m:Int):=by omega
    have z:i=m:=by omega
    have e2:bs (Bn p.ex p.sm (l.take i) pl)=bs (Bn p.ex p.sm l pl):=by rw[z,<-R,List.take_length]
    rw[e2];obtain⟨V,f⟩:∃V,bs (Bn p.ex p.sm l pl)=V:=⟨_,rfl⟩
    rw[f];replace f:=Z_ f;clear e2;replace z:=Z_ z;go_wp2;go_ret;exact⟨by rw[f.o];rfl,F.o⟩
theorem Zsl(rb sb B:Nat)(s tb:ZB)(tp:Value)(p:Rs)(S:Nat->Value)(sv:List (Value×Value))(Y:BA p.ex)(Z:BY p.ex p.sm)(n pl:Nat)(ih:Kp (HV rb sb B s tb tp p S sv n))(w:World)(H:YB w rb sb B s p tb tp S sv)(x:Sm)(L:p.sm[n]?=some x)(Q:pl+(one p.ex p.sm n pl).length<=20000)(hk:x.k=61) :
  Calls prog 107 #[.pointer (some ⟨sb,0,none⟩),.int .i64 n,.int .i64 pl] w λF N=>F=.returned (.string (bs (one p.ex p.sm n pl)))∧Below w.heap.size w N:=by
 have z:=Jf (pl:=pl) Y Z L;rw[if_pos hk]at z;rw[z]at Q ⊢;obtain⟨g,c,yy,J,hg,aa,G,I,r⟩:=H.stat L;have hn:n<p.sm.length:=(Ql.1 L).1;have c5:w.cell? ⟨sb,5,none⟩=some (.slice (some ⟨g,0,none⟩) p.sm.length c):=by rw[<-J];exact H.c 1 (by omega)
 obtain⟨y1,y2⟩:=yy;obtain⟨p1,q1,u⟩:=Zc G.1;obtain⟨p2,q2,y⟩:=Zc I.1;have u:y1=.slice p1 x.bo.length q1:=u;have y:y2=.slice p2 x.el.length q2:=y;subst u;subst y;have U:w.cell? ⟨g,n*7,none⟩=some (.int .u8 x.k):=r 0 _ rfl;have d1:=r 1 _ rfl;have d2:=r 2 _ rfl;have d3:=r 3 _ rfl;have d4:=r 4 _ rfl;have d5:=r 5 _ rfl;have d6:=r 6 _ rfl;dsimp only at U d1 d2 d3 d4 d5 d6;have M:=(Z n x L).1;have af:=H.lt;obtain⟨A,q⟩:∃V,bs (AQ p.ex x.e)=V:=⟨_,rfl⟩
 have zE:A.size=(AQ p.ex x.e).length:=by rw[<-q,Zd]
 obtain⟨O,b⟩:∃O,w.alloc (.cells #[.int .u8 x.k,.int .i64 x.a,.int .i64 x.v,.int .i64 x.e,.slice p1 x.bo.length q1,.slice p2 x.el.length q2,.bool x.two] 123)=O:=⟨_,rfl⟩
 have d:=Dd w (.int .u8 x.k) (.int .i64 x.a) (.int .i64 x.v) (.int .i64 x.e) (.slice p1 x.bo.length q1) (.slice p2 x.el.length q2) (.bool x.two) 123;rw[b]at d;have C:Below w.heap.size w O:=by rw[<-b];exact(Qh _ _).alloc (Qb _) _
 have ag:(n:Int)<(p.sm.length:Int):=by omega
 have hC:Kp (∀W,Below w.heap.size w W->Calls prog 172 #[.pointer (some ⟨sb,0,none⟩),.int .i64 (x.e:Nat)] W λF N=>F=.returned (.string A)∧Below W.heap.size W N):=⟨λW hW=>by
  rw[<-q];exact JS rb sb B s tb tp p S sv Y (x.e+1) x.e W (by omega) (H.step hW) M (by rw[Qe]at Q;omega)⟩
 obtain⟨P,i⟩:∃V,bs [(2:Int)%256]=V:=⟨_,rfl⟩
 have ad:P.size=1:=by rw[<-i,Zd];rfl
 have f:=λW=>Zk (2) W;rw[i]at f;replace f:=Z_ f;obtain⟨R,j⟩:∃V,bs [(x.v:Int)%256]=V:=⟨_,rfl⟩
 have ae:R.size=1:=by rw[<-j,Zd];rfl
 have h:=λW=>Zk (x.v) W;rw[j]at h;replace h:=Z_ h;have ab:A.size<=20000:=by rw[zE];rw[Qe]at Q;omega
 have t:bs (AQ p.ex x.e++[2,x.v%256])=A++P++R:=by rw[Zg,q,show ([2,x.v%256]:List Int)=[2%256]++[x.v%256] from rfl,Zg,i,j,<-QR]
 rw[t];clear t;have ah:¬9223372036854775807<A.size+P.size:=by omega
 have ai:¬9223372036854775807<A.size+P.size+R.size:=by omega
 rw[hk]at U b d;generalize x.v=v at *;generalize hm:p.sm.length=m at *;clear ad ae ab;have x0:=d.c 0 _ rfl;have x3:=d.c 3 _ rfl;replace d:=Z_ d;replace C:=Z_ C;replace b:=Z_ b;clear hm;clear H Y L r J aa G I q zE M Z z Q ih i j;go_in;go_wp2_with fail;rw[b.o];clear U d1 d2 d3 d4 d5 d6 c5;obtain⟨X,K⟩:∃X,w.heap.size=X:=⟨_,rfl⟩
 rw[K]at x0 x3 d;simp only[K];refine(hC.o _ C.o).mono ?_;rintro F D ⟨rfl,b2⟩;have E:Below O.heap.size O D:=b2;have x0:=(d.o.step E).c 0 _ rfl;clear b2;have x2:=(d.o.step E).c 2 _ rfl;go_wp2_with fail;go_region_held3 (λN=>N.cell? ⟨X,2,none⟩=some (.int .i64 v)) (go_keep) ((go_at_call 51;(first|refine(f.o _).mono ?_|refine(h.o _).mono ?_);rintro F w5 ⟨rfl,T⟩;have bn:Below D.heap.size D w5:=(by first|exact((Qh _ _).drew).trans T|exact Q9 (by assumption) (T.mono (Below.size (w:=D) (by assumption))));have o2:=((d.o.step E).step bn).c 2 _ rfl;clear T));all_goals
  have b9:Below D.heap.size D w5:=by assumption
  go_wp2;go_ret;exact⟨rfl,(C.o.trans (E.mono C.o.size)).trans (b9.mono (Qg C.o.size E.size))⟩
theorem Zsm(rb sb B:Nat)(s tb:ZB)(tp:Value)(p:Rs)(S:Nat->Value)(sv:List (Value×Value))(Y:BA p.ex)(Z:BY p.ex p.sm)(n pl:Nat)(ih:Kp (HV rb sb B s tb tp p S sv n))(w:World)(H:YB w rb sb B s p tb tp S sv)(x:Sm)(L:p.sm[n]?=some x)(Q:pl+(one p.ex p.sm n pl).length<=20000)(hk:x.k=62) :
  Calls prog 107 #[.pointer (some ⟨sb,0,none⟩),.int .i64 n,.int .i64 pl] w λF N=>F=.returned (.string (bs (one p.ex p.sm n pl)))∧Below w.heap.size w N:=by
 have z:=Jf (pl:=pl) Y Z L;rw[if_neg (by omega),if_pos hk]at z;rw[z]at Q ⊢;obtain⟨g,c,yy,J,hg,aa,G,I,r⟩:=H.stat L;have hn:n<p.sm.length:=(Ql.1 L).1;have c5:w.cell? ⟨sb,5,none⟩=some (.slice (some ⟨g,0,none⟩) p.sm.length c):=by rw[<-J];exact H.c 1 (by omega)
 obtain⟨y1,y2⟩:=yy;obtain⟨p1,q1,u⟩:=Zc G.1;obtain⟨p2,q2,y⟩:=Zc I.1;have u:y1=.slice p1 x.bo.length q1:=u;have y:y2=.slice p2 x.el.length q2:=y;subst u;subst y;have U:w.cell? ⟨g,n*7,none⟩=some (.int .u8 x.k):=r 0 _ rfl;have d1:=r 1 _ rfl;have d2:=r 2 _ rfl;have d3:=r 3 _ rfl;have d4:=r 4 _ rfl;have d5:=r 5 _ rfl;have d6:=r 6 _ rfl;dsimp only at U d1 d2 d3 d4 d5 d6;have M:=(Z n x L).1;have af:=H.lt;obtain⟨A,q⟩:∃V,bs (AQ p.ex x.e)=V:=⟨_,rfl⟩
 have zE:A.size=(AQ p.ex x.e).length:=by rw[<-q,Zd]
 obtain⟨O,b⟩:∃O,w.alloc (.cells #[.int .u8 x.k,.int .i64 x.a,.int .i64 x.v,.int .i64 x.e,.slice p1 x.bo.length q1,.slice p2 x.el.length q2,.bool x.two] 123)=O:=⟨_,rfl⟩
 have d:=Dd w (.int .u8 x.k) (.int .i64 x.a) (.int .i64 x.v) (.int .i64 x.e) (.slice p1 x.bo.length q1) (.slice p2 x.el.length q2) (.bool x.two) 123;rw[b]at d;have C:Below w.heap.size w O:=by rw[<-b];exact(Qh _ _).alloc (Qb _) _
 have ag:(n:Int)<(p.sm.length:Int):=by omega
 have hC:Kp (∀W,Below w.heap.size w W->Calls prog 172 #[.pointer (some ⟨sb,0,none⟩),.int .i64 (x.e:Nat)] W λF N=>F=.returned (.string A)∧Below W.heap.size W N):=⟨λW hW=>by
  rw[<-q];exact JS rb sb B s tb tp p S sv Y (x.e+1) x.e W (by omega) (H.step hW) M (by rw[Qe]at Q;omega)⟩
 obtain⟨P,i⟩:∃V,bs [(11:Int)%256]=V:=⟨_,rfl⟩
 have ad:P.size=1:=by rw[<-i,Zd];rfl
 have f:=λW=>Zk (11) W;rw[i]at f;replace f:=Z_ f;obtain⟨R,j⟩:∃V,bs [(x.v:Int)%256]=V:=⟨_,rfl⟩
 have ae:R.size=1:=by rw[<-j,Zd];rfl
 have h:=λW=>Zk (x.v) W;rw[j]at h;replace h:=Z_ h;have ab:A.size<=20000:=by rw[zE];rw[Qe]at Q;omega
 have t:bs (AQ p.ex x.e++[11,x.v%256])=A++P++R:=by rw[Zg,q,show ([11,x.v%256]:List Int)=[11%256]++[x.v%256] from rfl,Zg,i,j,<-QR]
 rw[t];clear t;have ah:¬9223372036854775807<A.size+P.size:=by omega
 have ai:¬9223372036854775807<A.size+P.size+R.size:=by omega
 rw[hk]at U b d;generalize x.v=v at *;generalize hm:p.sm.length=m at *;clear ad ae ab;have x0:=d.c 0 _ rfl;have x3:=d.c 3 _ rfl;replace d:=Z_ d;replace C:=Z_ C;replace b:=Z_ b;clear hm;clear H Y L r J aa G I q zE M Z z Q ih i j;go_in;go_wp2_with fail;rw[b.o];clear U d1 d2 d3 d4 d5 d6 c5;obtain⟨X,K⟩:∃X,w.heap.size=X:=⟨_,rfl⟩
 rw[K]at x0 x3 d;simp only[K];refine(hC.o _ C.o).mono ?_;rintro F D ⟨rfl,b2⟩;have E:Below O.heap.size O D:=b2;have x0:=(d.o.step E).c 0 _ rfl;clear b2;have x2:=(d.o.step E).c 2 _ rfl;go_wp2_with fail;go_region_held3 (λN=>N.cell? ⟨X,2,none⟩=some (.int .i64 v)) (go_keep) ((go_at_call 51;(first|refine(f.o _).mono ?_|refine(h.o _).mono ?_);rintro F w5 ⟨rfl,T⟩;have bn:Below D.heap.size D w5:=(by first|exact((Qh _ _).drew).trans T|exact Q9 (by assumption) (T.mono (Below.size (w:=D) (by assumption))));have o2:=((d.o.step E).step bn).c 2 _ rfl;clear T));all_goals
  have b9:Below D.heap.size D w5:=by assumption
  go_wp2;go_ret;exact⟨rfl,(C.o.trans (E.mono C.o.size)).trans (b9.mono (Qg C.o.size E.size))⟩
theorem Zsn(rb sb B:Nat)(s tb:ZB)(tp:Value)(p:Rs)(S:Nat->Value)(sv:List (Value×Value))(hE:BA p.ex)(hS:BY p.ex p.sm)(n pl:Nat)(ih:Kp (HV rb sb B s tb tp p S sv n))(w:World)(H:YB w rb sb B s p tb tp S sv)(x:Sm)(hx:p.sm[n]?=some x)(ao:x.bo.length<=20000)(hl:pl+(one p.ex p.sm n pl).length<=20000)(hk:x.k=64) :
  Calls prog 107 #[.pointer (some ⟨sb,0,none⟩),.int .i64 n,.int .i64 pl] w λh w'=>h=.returned (.string (bs (one p.ex p.sm n pl)))∧Below w.heap.size w w':=by
 have ah:=Jf (pl:=pl) hE hS hx;rw[if_neg (by omega),if_neg (by omega),if_pos hk]at ah;rw[ah]at hl ⊢;obtain⟨g,c,yy,al,hg,ay,aa,ab,R⟩:=H.stat hx;have hn:n<p.sm.length:=(Ql.1 hx).1;have c5:w.cell? ⟨sb,5,none⟩=some (.slice (some ⟨g,0,none⟩) p.sm.length c):=by rw[<-al];exact H.c 1 (by omega)
 obtain⟨y1,y2⟩:=yy;obtain⟨p1,q1,Y⟩:=Zc aa.1;obtain⟨p2,q2,Z⟩:=Zc ab.1;have Y:y1=.slice p1 x.bo.length q1:=Y;have Z:y2=.slice p2 x.el.length q2:=Z;subst Y;subst Z;have d0:w.cell? ⟨g,n*7,none⟩=some (.int .u8 x.k):=R 0 _ rfl;have d1:=R 1 _ rfl;have d2:=R 2 _ rfl;have d3:=R 3 _ rfl;have d4:=R 4 _ rfl;have d5:=R 5 _ rfl;have d6:=R 6 _ rfl;dsimp only at d0 d1 d2 d3 d4 d5 d6;have ar:=(hS n x hx).1;have aK:=H.lt;obtain⟨t,I⟩:∃V,bs (AQ p.ex x.e)=V:=⟨_,rfl⟩
 have zE:t.size=(AQ p.ex x.e).length:=by rw[<-I,Zd]
 obtain⟨wx,i⟩:∃wx,w.alloc (.cells #[.int .u8 x.k,.int .i64 x.a,.int .i64 x.v,.int .i64 x.e,.slice p1 x.bo.length q1,.slice p2 x.el.length q2,.bool x.two] 123)=wx:=⟨_,rfl⟩
 have d:=Dd w (.int .u8 x.k) (.int .i64 x.a) (.int .i64 x.v) (.int .i64 x.e) (.slice p1 x.bo.length q1) (.slice p2 x.el.length q2) (.bool x.two) 123;rw[i]at d;have bx:Below w.heap.size w wx:=by rw[<-i];exact(Qh _ _).alloc (Qb _) _
 have aL:(n:Int)<(p.sm.length:Int):=by omega
 have an:pl+(AQ p.ex x.e).length+2+(Bn p.ex p.sm x.bo (pl+(AQ p.ex x.e).length/2+1)).length<=20000:=by simp only[Qe,Qt,Qy]at hl;omega
 have hC:Kp (∀W,Below w.heap.size w W->Calls prog 172 #[.pointer (some ⟨sb,0,none⟩),.int .i64 (x.e:Nat)] W λh w'=>h=.returned (.string t)∧Below W.heap.size W w'):=⟨λW hW=>by
  rw[<-I];exact JS rb sb B s tb tp p S sv hE (x.e+1) x.e W (by omega) (H.step hW) ar (by omega)⟩
 have Q:=aa;have ak:=ab;have ae:=(hS n x hx).2.1;have av:=(hS n x hx).2.2;obtain⟨j,ag⟩:∃j:Nat,pl+(AQ p.ex x.e).length/2+1=j:=⟨_,rfl⟩
 rw[ag]at hl an ⊢;obtain⟨M,G⟩:∃V,bs (Bn p.ex p.sm x.bo j)=V:=⟨_,rfl⟩
 have zB:M.size=(Bn p.ex p.sm x.bo j).length:=by rw[<-G,Zd]
 have au:Kp (∀W,Below w.heap.size w W->Calls prog 49 #[.pointer (some ⟨sb,0,none⟩),.slice p1 x.bo.length q1,.int .i64 (j:Nat)] W λh w'=>h=.returned (.string M)∧Below W.heap.size W w'):=⟨λW hW=>by
  rw[<-G];exact Lj rb sb B s tb tp p S sv n ih x.bo _ j W (H.step hW) (Q.step hW) (λm hm=>⟨ae m hm,by have:=ae m hm;omega⟩) (by omega) ao⟩
 obtain⟨th,ai⟩:∃th:Nat,j+(Bn p.ex p.sm x.bo j).length/2=th:=⟨_,rfl⟩
 rw[ai]at hl ⊢;obtain⟨b,U⟩:∃b:Nat,th+1=b:=⟨_,rfl⟩
 obtain⟨eh,af⟩:∃eh:Nat,t.size/2=eh:=⟨_,rfl⟩
 obtain⟨bh,ad⟩:∃bh:Nat,M.size/2=bh:=⟨_,rfl⟩
 have D:=λW=>Hw t W (by omega);rw[af]at D;replace D:=Z_ D;have C:=λW=>Hw M W (by omega)
 rw[ad]at C;replace C:=Z_ C;have s1:(pl:Int)+(eh:Int)+1=(j:Int):=by rw[<-af,<-ag,zE];omega
 have s2:(j:Int)+(bh:Int)=(th:Int):=by rw[<-ad,<-ai,zB];omega
 have s3:(th:Int)+1=(b:Int):=by omega
 have t0:(pl:Int)<=20000:=by omega
 have t1:(eh:Int)<=20000:=by omega
 have t2:(bh:Int)<=20000:=by omega
 have t3:(j:Int)<=40000:=by omega
 have t4:(th:Int)<=60000:=by omega
 have t5:(b:Int)<=60001:=by omega
 have s0:(pl:Int)+(eh:Int)<=40000:=by omega
 obtain⟨X,F⟩:∃V,bs [(9:Int)%256]=V:=⟨_,rfl⟩
 have aE:X.size=1:=by rw[<-F,Zd];rfl
 have y:=λW=>Zk (9) W;rw[F]at y;replace y:=Z_ y;obtain⟨Vt,K⟩:∃V,bs [((b:Nat):Int)%256]=V:=⟨_,rfl⟩
 have aG:Vt.size=1:=by rw[<-K,Zd];rfl
 have A:=λW=>Zk ((b:Nat)) W;rw[K]at A;replace A:=Z_ A;obtain⟨V8,E⟩:∃V,bs [(8:Int)%256]=V:=⟨_,rfl⟩
 have aD:V8.size=1:=by rw[<-E,Zd];rfl
 have u:=λW=>Zk (8) W;rw[E]at u;replace u:=Z_ u;obtain⟨Vp,J⟩:∃V,bs [((pl:Nat):Int)%256]=V:=⟨_,rfl⟩
 have aF:Vp.size=1:=by rw[<-J,Zd];rfl
 have z:=λW=>Zk ((pl:Nat)) W;rw[J]at z;replace z:=Z_ z;rw[U]at hl ⊢;have T:bs (AQ p.ex x.e++[9,(b:Int)%256]++Bn p.ex p.sm x.bo j++[8,(pl:Int)%256])=t++X++Vt++M++V8++Vp:=by rw[Zg,Zg,Zg,I,G,show ([9,(b:Int)%256]:List Int)=[9%256]++[(b:Int)%256] from rfl,show ([8,(pl:Int)%256]:List Int)=[8%256]++[(pl:Int)%256] from rfl,Zg,Zg,F,K,E,J];simp only[QR]
 rw[T];clear T;have aM:¬9223372036854775807<t.size+X.size:=by omega
 have aN:¬9223372036854775807<t.size+X.size+Vt.size:=by omega
 have aO:¬9223372036854775807<t.size+X.size+Vt.size+M.size:=by omega
 have aP:¬9223372036854775807<t.size+X.size+Vt.size+M.size+V8.size:=by omega
 have aQ:¬9223372036854775807<t.size+X.size+Vt.size+M.size+V8.size+Vp.size:=by omega
 generalize x.bo.length=lb at *;generalize x.el.length=le at *;generalize hm:p.sm.length=m at *;rw[hk]at d0 i d;have x0:=d.c 0 _ rfl;have x3:=d.c 3 _ rfl;replace d:=Z_ d;replace bx:=Z_ bx;replace i:=Z_ i;clear hm;clear H hE hx R al ay aa ab I zE ar hS ah hl ih F K E J aE aG aD aF an ae av Q ak ag ai U af ad G zB ao;go_in;go_wp2_with fail;rw[i.o];clear d0 d1 d2 d3 d4 d5 d6 c5;obtain⟨gx,am⟩:∃gx,w.heap.size=gx:=⟨_,rfl⟩
 rw[am]at x0 x3 d;simp only[am];refine(hC.o _ bx.o).mono ?_;rintro h q ⟨rfl,b2⟩;have L:Below wx.heap.size wx q:=b2;have x0:=(d.o.step L).c 0 _ rfl;clear b2;have bw:Below w.heap.size w q:=bx.o.trans (L.mono bx.o.size);have x4:=(d.o.step L).c 4 _ rfl;have x5:=(d.o.step L).c 5 _ rfl;have x6:=(d.o.step L).c 6 _ rfl;go_wp2_with fail;refine(D.o _).mono ?_;rintro h w3 ⟨rfl,ap⟩;have aw:=ap.symm;clear ap;subst aw;go_wp2_with fail;refine(au.o _ bw).mono ?_;rintro h w5 ⟨rfl,f⟩;have r:Below q.heap.size q w5:=f;clear f;have aH:=((d.o.step L).step r).c 0 _ rfl;have aI:=((d.o.step L).step r).c 5 _ rfl;have aJ:=((d.o.step L).step r).c 6 _ rfl;clear x4 x5 x6;go_wp2_with fail;refine(C.o _).mono ?_;rintro h w6 ⟨rfl,aq⟩;have ax:=aq.symm;clear aq;subst ax;go_wp2_with fail;refine(y.o _).mono ?_;rintro h az ⟨rfl,f⟩;have N:Below q.heap.size q az:=r.trans (f.mono r.size);clear f;go_wp2_with fail;refine(A.o _).mono ?_;rintro h aA ⟨rfl,f⟩;have O:Below q.heap.size q aA:=N.trans (f.mono N.size);clear f;go_wp2_with fail;refine(u.o _).mono ?_;rintro h aB ⟨rfl,f⟩;have P:Below q.heap.size q aB:=O.trans (f.mono O.size);clear f;go_wp2_with fail;refine(z.o _).mono ?_;rintro h aC ⟨rfl,f⟩;have aj:Below q.heap.size q aC:=P.trans (f.mono P.size);clear f;go_wp2;go_ret;exact⟨rfl,bw.trans (aj.mono bw.size)⟩
theorem Zso(rb sb B:Nat)(s tb:ZB)(tp:Value)(p:Rs)(S:Nat->Value)(sv:List (Value×Value))(hE:BA p.ex)(hS:BY p.ex p.sm)(n pl:Nat)(ih:Kp (HV rb sb B s tb tp p S sv n))(w:World)(H:YB w rb sb B s p tb tp S sv)(x:Sm)(hx:p.sm[n]?=some x)(aj:x.bo.length<=20000)(hl:pl+(one p.ex p.sm n pl).length<=20000)(ab:¬x.k=61)(ad:¬x.k=62)(ae:¬x.k=64)(h2:x.two=false) :
  Calls prog 107 #[.pointer (some ⟨sb,0,none⟩),.int .i64 n,.int .i64 pl] w λi w'=>i=.returned (.string (bs (one p.ex p.sm n pl)))∧Below w.heap.size w w':=by
 have Y:=Jf (pl:=pl) hE hS hx;rw[if_neg ab,if_neg ad,if_neg ae,if_pos h2]at Y;rw[Y]at hl ⊢;obtain⟨g,c,yy,ag,hg,au,P,Q,K⟩:=H.stat hx;have hn:n<p.sm.length:=(Ql.1 hx).1;have c5:w.cell? ⟨sb,5,none⟩=some (.slice (some ⟨g,0,none⟩) p.sm.length c):=by rw[<-ag];exact H.c 1 (by omega)
 obtain⟨y1,y2⟩:=yy;obtain⟨p1,q1,N⟩:=Zc P.1;obtain⟨p2,q2,O⟩:=Zc Q.1;have N:y1=.slice p1 x.bo.length q1:=N;have O:y2=.slice p2 x.el.length q2:=O;subst N;subst O;have d0:w.cell? ⟨g,n*7,none⟩=some (.int .u8 x.k):=K 0 _ rfl;have d1:=K 1 _ rfl;have d2:=K 2 _ rfl;have d3:=K 3 _ rfl;have d4:=K 4 _ rfl;have d5:=K 5 _ rfl;have d6:=K 6 _ rfl;dsimp only at d0 d1 d2 d3 d4 d5 d6;have an:=(hS n x hx).1;have aC:=H.lt;obtain⟨F,A⟩:∃V,bs (AQ p.ex x.e)=V:=⟨_,rfl⟩
 have zE:F.size=(AQ p.ex x.e).length:=by rw[<-A,Zd]
 obtain⟨wx,d⟩:∃wx,w.alloc (.cells #[.int .u8 x.k,.int .i64 x.a,.int .i64 x.v,.int .i64 x.e,.slice p1 x.bo.length q1,.slice p2 x.el.length q2,.bool x.two] 123)=wx:=⟨_,rfl⟩
 have b:=Dd w (.int .u8 x.k) (.int .i64 x.a) (.int .i64 x.v) (.int .i64 x.e) (.slice p1 x.bo.length q1) (.slice p2 x.el.length q2) (.bool x.two) 123;rw[d]at b;have bx:Below w.heap.size w wx:=by rw[<-d];exact(Qh _ _).alloc (Qb _) _
 have aD:(n:Int)<(p.sm.length:Int):=by omega
 have ai:pl+(AQ p.ex x.e).length+2+(Bn p.ex p.sm x.bo (pl+(AQ p.ex x.e).length/2+1)).length<=20000:=by simp only[Qe,Qt,Qy]at hl;omega
 have hC:Kp (∀W,Below w.heap.size w W->Calls prog 172 #[.pointer (some ⟨sb,0,none⟩),.int .i64 (x.e:Nat)] W λi w'=>i=.returned (.string F)∧Below W.heap.size W w'):=⟨λW hW=>by
  rw[<-A];exact JS rb sb B s tb tp p S sv hE (x.e+1) x.e W (by omega) (H.step hW) an (by omega)⟩
 have J:=P;have af:=Q;have T:=(hS n x hx).2.1;have ap:=(hS n x hx).2.2;obtain⟨f,X⟩:∃f:Nat,pl+(AQ p.ex x.e).length/2+1=f:=⟨_,rfl⟩
 rw[X]at hl ai ⊢;obtain⟨VB,z⟩:∃V,bs (Bn p.ex p.sm x.bo f)=V:=⟨_,rfl⟩
 have zB:VB.size=(Bn p.ex p.sm x.bo f).length:=by rw[<-z,Zd]
 have ao:Kp (∀W,Below w.heap.size w W->Calls prog 49 #[.pointer (some ⟨sb,0,none⟩),.slice p1 x.bo.length q1,.int .i64 (f:Nat)] W λi w'=>i=.returned (.string VB)∧Below W.heap.size W w'):=⟨λW hW=>by
  rw[<-z];exact Lj rb sb B s tb tp p S sv n ih x.bo _ f W (H.step hW) (J.step hW) (λm hm=>⟨T m hm,by have:=T m hm;omega⟩) (by omega) aj⟩
 obtain⟨j,Z⟩:∃j:Nat,f+(Bn p.ex p.sm x.bo f).length/2=j:=⟨_,rfl⟩
 rw[Z]at hl ⊢;obtain⟨D,ak⟩:∃D:Nat,j+1=D:=⟨_,rfl⟩
 obtain⟨eh,U⟩:∃eh:Nat,F.size/2=eh:=⟨_,rfl⟩
 obtain⟨bh,R⟩:∃bh:Nat,VB.size/2=bh:=⟨_,rfl⟩
 have u:=λW=>Hw F W (by omega);rw[U]at u;replace u:=Z_ u;have t:=λW=>Hw VB W (by omega)
 rw[R]at t;replace t:=Z_ t;have s1:(pl:Int)+(eh:Int)+1=(f:Int):=by rw[<-U,<-X,zE];omega
 have s2:(f:Int)+(bh:Int)=(j:Int):=by rw[<-R,<-Z,zB];omega
 have s3:(j:Int)+1=(D:Int):=by omega
 have t0:(pl:Int)<=20000:=by omega
 have t1:(eh:Int)<=20000:=by omega
 have t2:(bh:Int)<=20000:=by omega
 have t3:(f:Int)<=40000:=by omega
 have t4:(j:Int)<=60000:=by omega
 have t5:(D:Int)<=60001:=by omega
 have s0:(pl:Int)+(eh:Int)<=40000:=by omega
 obtain⟨V9,y⟩:∃V,bs [(9:Int)%256]=V:=⟨_,rfl⟩
 have ax:V9.size=1:=by rw[<-y,Zd];rfl
 have q:=λW=>Zk (9) W;rw[y]at q;replace q:=Z_ q;obtain⟨Vt,C⟩:∃V,bs [(j:Int)%256]=V:=⟨_,rfl⟩
 have ay:Vt.size=1:=by rw[<-C,Zd];rfl
 have r:=λW=>Zk (j) W;rw[C]at r;replace r:=Z_ r;have L:bs (AQ p.ex x.e++[9,(j:Int)%256]++Bn p.ex p.sm x.bo f)=F++V9++Vt++VB:=by rw[Zg,Zg,A,z,show ([9,(j:Int)%256]:List Int)=[9%256]++[(j:Int)%256] from rfl,Zg,y,C,<-QR]
 rw[L];clear L;have aH:¬9223372036854775807<F.size+V9.size:=by omega
 have aI:¬9223372036854775807<F.size+V9.size+Vt.size:=by omega
 have aJ:¬9223372036854775807<F.size+V9.size+Vt.size+VB.size:=by omega
 generalize x.bo.length=lb at *;generalize x.el.length=le at *;generalize hm:p.sm.length=m at *;rw[h2]at d6 d b;have aE:(x.k==61)=false:=Qf.2 ab;have aF:(x.k==62)=false:=Qf.2 ad;have aG:(x.k==64)=false:=Qf.2 ae;generalize x.k=kk at *;have x0:=b.c 0 _ rfl;have x3:=b.c 3 _ rfl;replace b:=Z_ b;replace bx:=Z_ bx;replace d:=Z_ d;clear hm;clear H hE hx K ag au P Q A zE an hS Y hl ih y C ax ay ai T ap J af X Z ak U R z zB aj;go_in;go_wp2_with fail;rw[d.o];clear d0 d1 d2 d3 d4 d5 d6 c5;obtain⟨gx,ah⟩:∃gx,w.heap.size=gx:=⟨_,rfl⟩
 rw[ah]at x0 x3 b;simp only[ah];refine(hC.o _ bx.o).mono ?_;rintro i M ⟨rfl,b2⟩;have E:Below wx.heap.size wx M:=b2;have x0:=(b.o.step E).c 0 _ rfl;clear b2;have bw:Below w.heap.size w M:=bx.o.trans (E.mono bx.o.size);have x4:=(b.o.step E).c 4 _ rfl;have x5:=(b.o.step E).c 5 _ rfl;have x6:=(b.o.step E).c 6 _ rfl;go_wp2_with fail;refine(u.o _).mono ?_;rintro i w3 ⟨rfl,al⟩;have aq:=al.symm;clear al;subst aq;go_wp2_with fail;refine(ao.o _ bw).mono ?_;rintro i w5 ⟨rfl,G⟩;have h:Below M.heap.size M w5:=G;clear G;have az:=((b.o.step E).step h).c 0 _ rfl;have aA:=((b.o.step E).step h).c 5 _ rfl;have aB:=((b.o.step E).step h).c 6 _ rfl;clear x4 x5 x6;go_wp2_with fail;refine(t.o _).mono ?_;rintro i w6 ⟨rfl,am⟩;have ar:=am.symm;clear am;subst ar;go_wp2_with fail;refine(q.o _).mono ?_;rintro i av ⟨rfl,G⟩;have I:Below M.heap.size M av:=h.trans (G.mono h.size);clear G;go_wp2_with fail;refine(r.o _).mono ?_;rintro i aw ⟨rfl,G⟩;have aa:Below M.heap.size M aw:=I.trans (G.mono I.size);clear G;go_wp2;go_ret;exact⟨rfl,bw.trans (aa.mono bw.size)⟩
theorem Zsp(rb sb B:Nat)(s tb:ZB)(tp:Value)(p:Rs)(S:Nat->Value)(sv:List (Value×Value))(hE:BA p.ex)(hS:BY p.ex p.sm)(n pl:Nat)(ih:Kp (HV rb sb B s tb tp p S sv n))(w:World)(H:YB w rb sb B s p tb tp S sv)(x:Sm)(hx:p.sm[n]?=some x)(aB:x.bo.length<=20000)(aC:x.el.length<=20000)(hl:pl+(one p.ex p.sm n pl).length<=20000)(av:¬x.k=61)(aw:¬x.k=62)(ax:¬x.k=64)(h2:x.two=true) :
  Calls prog 107 #[.pointer (some ⟨sb,0,none⟩),.int .i64 n,.int .i64 pl] w λh w'=>h=.returned (.string (bs (one p.ex p.sm n pl)))∧Below w.heap.size w w':=by
 have ap:=Jf (pl:=pl) hE hS hx;rw[if_neg av,if_neg aw,if_neg ax,if_neg (by rw[h2];simp)]at ap;rw[ap]at hl ⊢;obtain⟨g,c,yy,ay,hg,aP,ah,ai,hc⟩:=H.stat hx;have hn:n<p.sm.length:=(Ql.1 hx).1;have c5:w.cell? ⟨sb,5,none⟩=some (.slice (some ⟨g,0,none⟩) p.sm.length c):=by rw[<-ay];exact H.c 1 (by omega)
 obtain⟨y1,y2⟩:=yy;obtain⟨p1,q1,af⟩:=Zc ah.1;obtain⟨p2,q2,ag⟩:=Zc ai.1;have af:y1=.slice p1 x.bo.length q1:=af;have ag:y2=.slice p2 x.el.length q2:=ag;subst af;subst ag;have d0:w.cell? ⟨g,n*7,none⟩=some (.int .u8 x.k):=hc 0 _ rfl;have d1:=hc 1 _ rfl;have d2:=hc 2 _ rfl;have d3:=hc 3 _ rfl;have d4:=hc 4 _ rfl;have d5:=hc 5 _ rfl;have d6:=hc 6 _ rfl;dsimp only at d0 d1 d2 d3 d4 d5 d6;have aF:=(hS n x hx).1;have aY:=H.lt;obtain⟨y,O⟩:∃V,bs (AQ p.ex x.e)=V:=⟨_,rfl⟩
 have zE:y.size=(AQ p.ex x.e).length:=by rw[<-O,Zd]
 obtain⟨wx,t⟩:∃wx,w.alloc (.cells #[.int .u8 x.k,.int .i64 x.a,.int .i64 x.v,.int .i64 x.e,.slice p1 x.bo.length q1,.slice p2 x.el.length q2,.bool x.two] 123)=wx:=⟨_,rfl⟩
 have i:=Dd w (.int .u8 x.k) (.int .i64 x.a) (.int .i64 x.v) (.int .i64 x.e) (.slice p1 x.bo.length q1) (.slice p2 x.el.length q2) (.bool x.two) 123;rw[t]at i;have bx:Below w.heap.size w wx:=by rw[<-t];exact(Qh _ _).alloc (Qb _) _
 have aZ:(n:Int)<(p.sm.length:Int):=by omega
 have aA:pl+(AQ p.ex x.e).length+2+(Bn p.ex p.sm x.bo (pl+(AQ p.ex x.e).length/2+1)).length<=20000:=by simp only[Qe,Qt,Qy]at hl;omega
 have hC:Kp (∀W,Below w.heap.size w W->Calls prog 172 #[.pointer (some ⟨sb,0,none⟩),.int .i64 (x.e:Nat)] W λh w'=>h=.returned (.string y)∧Below W.heap.size W w'):=⟨λW hW=>by
  rw[<-O];exact JS rb sb B s tb tp p S sv hE (x.e+1) x.e W (by omega) (H.step hW) aF (by omega)⟩
 have ab:=ah;have ad:=ai;have ak:=(hS n x hx).2.1;have am:=(hS n x hx).2.2;obtain⟨u,an⟩:∃u:Nat,pl+(AQ p.ex x.e).length/2+1=u:=⟨_,rfl⟩
 rw[an]at hl aA ⊢;obtain⟨C,N⟩:∃V,bs (Bn p.ex p.sm x.bo u)=V:=⟨_,rfl⟩
 have zB:C.size=(Bn p.ex p.sm x.bo u).length:=by rw[<-N,Zd]
 have aK:Kp (∀W,Below w.heap.size w W->Calls prog 49 #[.pointer (some ⟨sb,0,none⟩),.slice p1 x.bo.length q1,.int .i64 (u:Nat)] W λh w'=>h=.returned (.string C)∧Below W.heap.size W w'):=⟨λW hW=>by
  rw[<-N];exact Lj rb sb B s tb tp p S sv n ih x.bo _ u W (H.step hW) (ab.step hW) (λm hm=>⟨ak m hm,by have:=ak m hm;omega⟩) (by omega) aB⟩
 obtain⟨th,aq⟩:∃th:Nat,u+(Bn p.ex p.sm x.bo u).length/2=th:=⟨_,rfl⟩
 rw[aq]at hl ⊢;obtain⟨b,A⟩:∃b:Nat,th+1=b:=⟨_,rfl⟩
 obtain⟨eh,al⟩:∃eh:Nat,y.size/2=eh:=⟨_,rfl⟩
 obtain⟨bh,aj⟩:∃bh:Nat,C.size/2=bh:=⟨_,rfl⟩
 have J:=λW=>Hw y W (by omega);rw[al]at J;replace J:=Z_ J;have I:=λW=>Hw C W (by omega)
 rw[aj]at I;replace I:=Z_ I;have s1:(pl:Int)+(eh:Int)+1=(u:Int):=by rw[<-al,<-an,zE];omega
 have s2:(u:Int)+(bh:Int)=(th:Int):=by rw[<-aj,<-aq,zB];omega
 have s3:(th:Int)+1=(b:Int):=by omega
 have t0:(pl:Int)<=20000:=by omega
 have t1:(eh:Int)<=20000:=by omega
 have t2:(bh:Int)<=20000:=by omega
 have t3:(u:Int)<=40000:=by omega
 have t4:(th:Int)<=60000:=by omega
 have t5:(b:Int)<=60001:=by omega
 have s0:(pl:Int)+(eh:Int)<=40000:=by omega
 have aM:b+(Bn p.ex p.sm x.el b).length<=20000:=by rw[<-A];simp only[Qe,Qt,Qy]at hl;omega
 rw[A]at hl ⊢;obtain⟨VO,P⟩:∃V,bs (Bn p.ex p.sm x.el b)=V:=⟨_,rfl⟩
 have zO:VO.size=(Bn p.ex p.sm x.el b).length:=by rw[<-P,Zd]
 have aL:Kp (∀W,Below w.heap.size w W->Calls prog 49 #[.pointer (some ⟨sb,0,none⟩),.slice p2 x.el.length q2,.int .i64 (b:Nat)] W λh w'=>h=.returned (.string VO)∧Below W.heap.size W w'):=⟨λW hW=>by
  rw[<-P];exact Lj rb sb B s tb tp p S sv n ih x.el _ b W (H.step hW) (ad.step hW) (λm hm=>⟨am m hm,by have:=am m hm;omega⟩) (by omega) aC⟩
 obtain⟨oh,ao⟩:∃oh:Nat,VO.size/2=oh:=⟨_,rfl⟩
 have K:=λW=>Hw VO W (by omega);rw[ao]at K;replace K:=Z_ K;obtain⟨d,z⟩:∃d:Nat,b+(Bn p.ex p.sm x.el b).length/2=d:=⟨_,rfl⟩
 rw[z]at hl ⊢;have s4:(b:Int)+(oh:Int)=(d:Int):=by rw[<-ao,<-z,zO];omega
 have t6:(oh:Int)<=20000:=by omega
 have t7:(d:Int)<=90000:=by omega
 obtain⟨X,M⟩:∃V,bs [(9:Int)%256]=V:=⟨_,rfl⟩
 have aV:X.size=1:=by rw[<-M,Zd];rfl
 have E:=λW=>Zk (9) W;rw[M]at E;replace E:=Z_ E;obtain⟨Vt,R⟩:∃V,bs [((b:Nat):Int)%256]=V:=⟨_,rfl⟩
 have aX:Vt.size=1:=by rw[<-R,Zd];rfl
 have G:=λW=>Zk ((b:Nat)) W;rw[R]at G;replace G:=Z_ G;obtain⟨V8,L⟩:∃V,bs [(8:Int)%256]=V:=⟨_,rfl⟩
 have aU:V8.size=1:=by rw[<-L,Zd];rfl
 have D:=λW=>Zk (8) W;rw[L]at D;replace D:=Z_ D;obtain⟨Vp,Q⟩:∃V,bs [((d:Nat):Int)%256]=V:=⟨_,rfl⟩
 have aW:Vp.size=1:=by rw[<-Q,Zd];rfl
 have F:=λW=>Zk ((d:Nat)) W;rw[Q]at F;replace F:=Z_ F;have ae:bs (AQ p.ex x.e++[9,(b:Int)%256]++Bn p.ex p.sm x.bo u++[8,(d:Int)%256]++Bn p.ex p.sm x.el b)=y++X++Vt++C++V8++Vp++VO:=by rw[Zg,Zg,Zg,Zg,O,N,P,show ([9,(b:Int)%256]:List Int)=[9%256]++[(b:Int)%256] from rfl,show ([8,(d:Int)%256]:List Int)=[8%256]++[(d:Int)%256] from rfl,Zg,Zg,M,R,L,Q];simp only[QR]
 rw[ae];clear ae;have a3:¬9223372036854775807<y.size+X.size:=by omega
 have a4:¬9223372036854775807<y.size+X.size+Vt.size:=by omega
 have a5:¬9223372036854775807<y.size+X.size+Vt.size+C.size:=by omega
 have a6:¬9223372036854775807<y.size+X.size+Vt.size+C.size+V8.size:=by omega
 have a7:¬9223372036854775807<y.size+X.size+Vt.size+C.size+V8.size+Vp.size:=by omega
 have a8:¬9223372036854775807<y.size+X.size+Vt.size+C.size+V8.size+Vp.size+VO.size:=by omega
 generalize x.bo.length=lb at *;generalize x.el.length=le at *;generalize hm:p.sm.length=m at *;rw[h2]at d6 t i;have a0:(x.k==61)=false:=Qf.2 av;have a1:(x.k==62)=false:=Qf.2 aw;have a2:(x.k==64)=false:=Qf.2 ax;generalize x.k=kk at *;have x0:=i.c 0 _ rfl;have x3:=i.c 3 _ rfl;replace i:=Z_ i;replace bx:=Z_ bx;replace t:=Z_ t;clear hm;clear H hE hx hc ay aP ah ai O zE aF hS ap hl ih M R L Q aV aX aU aW P zO aM ao z aA ak am ab ad an aq A al aj N zB aB aC;go_in;go_wp2_with fail;rw[t.o];clear d0 d1 d2 d3 d4 d5 d6 c5;obtain⟨gx,az⟩:∃gx,w.heap.size=gx:=⟨_,rfl⟩
 rw[az]at x0 x3 i;simp only[az];refine(hC.o _ bx.o).mono ?_;rintro h q ⟨rfl,b2⟩;have U:Below wx.heap.size wx q:=b2;have x0:=(i.o.step U).c 0 _ rfl;clear b2;have bw:Below w.heap.size w q:=bx.o.trans (U.mono bx.o.size);have x4:=(i.o.step U).c 4 _ rfl;have x5:=(i.o.step U).c 5 _ rfl;have x6:=(i.o.step U).c 6 _ rfl;go_wp2_with fail;refine(J.o _).mono ?_;rintro h w3 ⟨rfl,aD⟩;have aN:=aD.symm;clear aD;subst aN;go_wp2_with fail;refine(aK.o _ bw).mono ?_;rintro h w5 ⟨rfl,f⟩;have r:Below q.heap.size q w5:=f;clear f;have aG:=((i.o.step U).step r).c 0 _ rfl;have aH:=((i.o.step U).step r).c 5 _ rfl;have aI:=((i.o.step U).step r).c 6 _ rfl;clear x4 x5 x6;go_wp2_with fail;refine(I.o _).mono ?_;rintro h w6 ⟨rfl,aE⟩;have aO:=aE.symm;clear aE;subst aO;have aJ:Below w.heap.size w w5:=bw.trans (r.mono bw.size);go_wp2_with fail;refine(aL.o _ aJ).mono ?_;rintro h w8 ⟨rfl,f⟩;have au:Below q.heap.size q w8:=r.trans (f.mono r.size);clear f;clear aG aH aI;go_wp2_with fail;refine(E.o _).mono ?_;rintro h aQ ⟨rfl,f⟩;have Y:Below q.heap.size q aQ:=au.trans (f.mono au.size);clear f;go_wp2_with fail;refine(G.o _).mono ?_;rintro h aR ⟨rfl,f⟩;have Z:Below q.heap.size q aR:=Y.trans (f.mono Y.size);clear f;go_wp2_with fail;refine(D.o _).mono ?_;rintro h aS ⟨rfl,f⟩;have aa:Below q.heap.size q aS:=Z.trans (f.mono Z.size);clear f;go_wp2_with fail;refine(K.o _).mono ?_;rintro h a9 ⟨rfl,j⟩;have T:=j.symm;clear j;subst T;go_wp2_with fail;refine(F.o _).mono ?_;rintro h aT ⟨rfl,f⟩;have ar:Below q.heap.size q aT:=aa.trans (f.mono aa.size);clear f;go_wp2;go_ret;exact⟨rfl,bw.trans (ar.mono bw.size)⟩
theorem Zrb(a:BA ex)(b:BY ex sm){n:Nat}(pl:Nat)(c:n<sm.length):1<=(one ex sm n pl).length:=by
 rw[Jf a b (Qn c)];split
 ·simp only[Qe,Qt];omega
 ·split
  ·simp only[Qe,Qt];omega
  ·split
   ·simp only[Qe,Qt];omega
   ·split<;>simp only[Qe,Qt]<;>omega
theorem Nk(a:BA ex)(b:BY ex sm):∀(l:List Nat) (pl:Nat),(∀n∈l,n<sm.length)->l.length<=(Bn ex sm l pl).length
 | [],pl,h=>Q8 _
 | n::l,pl,h=>by have e:=Zrb a b pl (h n (by simp));have c:=Nk a b l (pl+(one ex sm n pl).length/2) (λm d=>h m (by simp[d]));unfold Bn at c ⊢;simp only[Cm,Qe,Qt];omega
theorem Tf(rb sb B:Nat)(s j:ZB)(tp:Value)(p:Rs)(S:Nat->Value)(sv:List (Value×Value))(i:BA p.ex)(f:BY p.ex p.sm):∀k,HV rb sb B s j tp p S sv k
 | 0=>λn pl w z=>by omega
 | k+1=>λn pl w z H A q=>by
  have C:=Tf rb sb B s j tp p S sv i f k;have d:Kp (HV rb sb B s j tp p S sv n):=⟨λm pl w t=>C m pl w (by omega)⟩
  have o:p.sm[n]?=some p.sm[n]:=Qn A;obtain⟨D,u,v⟩:=f n _ o;have b:=Jf (pl:=pl) i f o;by_cases g:p.sm[n].k=61
  ·exact Zsl rb sb B s j tp p S sv i f n pl d w H _ o q g
  ·by_cases h:p.sm[n].k=62
   ·exact Zsm rb sb B s j tp p S sv i f n pl d w H _ o q h
   ·rw[if_neg g,if_neg h]at b;have x:=Nk i f p.sm[n].bo (pl+(AQ p.ex p.sm[n].e).length/2+1) (λm t=>by have:=u m t;omega);by_cases c:p.sm[n].k=64
    ·rw[if_pos c]at b;have a:=congrArg List.length b;simp only[Qe,Qt,Qy]at a;exact Zsn rb sb B s j tp p S sv i f n pl d w H _ o (by omega) q c
    ·rw[if_neg c]at b;cases r:p.sm[n].two with
     | false=>rw[if_pos r]at b;have a:=congrArg List.length b;simp only[Qe,Qt,Qy]at a;exact Zso rb sb B s j tp p S sv i f n pl d w H _ o (by omega) q g h c r
     | true=>rw[if_neg (by rw[r];simp)]at b;have a:=congrArg List.length b;simp only[Qe,Qt,Qy]at a;have y:=Nk i f p.sm[n].el (pl+(AQ p.ex p.sm[n].e).length/2+1+(Bn p.ex p.sm p.sm[n].bo (pl+(AQ p.ex p.sm[n].e).length/2+1)).length/2+1) (λm t=>by have:=v m t;omega);exact Zsp rb sb B s j tp p S sv i f n pl d w H _ o (by omega) (by omega) q g h c r
end Go.Proofs.YtcnbifdlkalimabGreat
