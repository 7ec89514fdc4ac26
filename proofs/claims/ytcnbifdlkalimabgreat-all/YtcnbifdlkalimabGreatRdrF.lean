/- Lemmas; their conditions stand in each. -/
import Derived.Test.YtcnbifdlkalimabGreatRdrG
namespace Go.Proofs.YtcnbifdlkalimabGreat
open Go.RowKit Go.Proofs.Tryz
set_option linter.all false
set_option maxRecDepth 100000
set_option maxHeartbeats 6400000
variable{ex:List Ex}{l:List Nat}{sm:List Sm}{pl:Nat}
theorem Hw(V:ZB)(w:World)(h:V.size<=100000):Calls prog 50 #[.string V] w λe b=>e=.returned (.int .i64 (V.size/2:Nat))∧b=w:=by
 have c:(V.size:Int)<=100000:=by omega
 have a:((V.size/2:Nat):Int)=(V.size:Int)/2:=by omega
 rw[a];go_in;go_wp2;go_ret;exact⟨by simp,rfl⟩
theorem Te(f:Nat->Nat->List Int)(b:∀n pl,(f n pl).length%2=0)(c:List Nat):∀(a:List Nat) (pl:Nat),Cm f (a++c) pl=Cm f a pl++Cm f c (pl+(Cm f a pl).length/2)
 | [],pl=>by simp[Cm]
 | n::a,pl=>by have d:=b n pl;have e:=KW f b a (pl+(f n pl).length/2);simp only[Uj,Cm];rw[Te f b c a,QE,Qe,show pl+(f n pl).length/2+(Cm f a (pl+(f n pl).length/2)).length/2=pl+((f n pl).length+(Cm f a (pl+(f n pl).length/2)).length)/2 from by omega]
theorem Zpg{i:Nat}(a:i<l.length):Bn ex sm (l.take (i+1)) pl=Bn ex sm (l.take i) pl++one ex sm l[i] (pl+(Bn ex sm (l.take i) pl).length/2):=by unfold Bn;rw[List.take_succ_eq_append_getElem a];exact MV (one ex sm) l[i] (l.take i) pl (Ln ex sm)
theorem Zsk(i:Nat):(Bn ex sm (l.take i) pl).length<=(Bn ex sm l pl).length:=by have h:=Te (one ex sm) (Ln ex sm) (l.drop i) (l.take i) pl;rw[List.take_append_drop]at h;unfold Bn;rw[h,Qe];omega
theorem Jf(g:BA ex)(b:BY ex sm){n:Nat}{x:Sm}(c:sm[n]?=some x) :
  one ex sm n pl=(if x.k=61 then AQ ex x.e++[2,x.v%256] else if x.k=62 then AQ ex x.e++[11,x.v%256] else
   (if x.k=64 then AQ ex x.e++[9,((pl+(AQ ex x.e).length/2+1+(Bn ex sm x.bo (pl+(AQ ex x.e).length/2+1)).length/2+1:Nat):Int)%256]++Bn ex sm x.bo (pl+(AQ ex x.e).length/2+1)++[8,(pl:Int)%256]
   else if x.two=false then AQ ex x.e++[9,((pl+(AQ ex x.e).length/2+1+(Bn ex sm x.bo (pl+(AQ ex x.e).length/2+1)).length/2:Nat):Int)%256]++Bn ex sm x.bo (pl+(AQ ex x.e).length/2+1)
   else AQ ex x.e++[9,((pl+(AQ ex x.e).length/2+1+(Bn ex sm x.bo (pl+(AQ ex x.e).length/2+1)).length/2+1:Nat):Int)%256]++Bn ex sm x.bo (pl+(AQ ex x.e).length/2+1)++[8,((pl+(AQ ex x.e).length/2+1+(Bn ex sm x.bo (pl+(AQ ex x.e).length/2+1)).length/2+1+(Bn ex sm x.el (pl+(AQ ex x.e).length/2+1+(Bn ex sm x.bo (pl+(AQ ex x.e).length/2+1)).length/2+1)).length/2:Nat):Int)%256]++Bn ex sm x.el (pl+(AQ ex x.e).length/2+1+(Bn ex sm x.bo (pl+(AQ ex x.e).length/2+1)).length/2+1))):=by
 have o:n<sm.length:=(Ql.1 c).1;obtain⟨j,d,f⟩:=b n x c;unfold one;simp only[Ed,c];have h:∀pl,Cm (Ed ex sm n) x.bo pl=Bn ex sm x.bo pl:=λpl=>all_any g b λm a=>⟨by have:=d m a;omega,d m a⟩
 have i:∀pl,Cm (Ed ex sm n) x.el pl=Bn ex sm x.el pl:=λpl=>all_any g b λm a=>⟨by have:=f m a;omega,f m a⟩
 simp only[h,i]
theorem BD.step{w w':World}{B:Nat}{S:Nat->Value}{v:Value}(h:BD w B S v l)(a:Below w.heap.size w w'):BD w' B S v l:=⟨Zo h.1 a,h.2⟩
def HV(rb sb B:Nat)(s tb:ZB)(tp:Value)(p:Rs)(S:Nat->Value)(sv:List (Value×Value))(k:Nat):Prop:=∀(n pl:Nat) (w:World),n<k->YB w rb sb B s p tb tp S sv->n<p.sm.length->pl+(one p.ex p.sm n pl).length<=20000->
 Calls prog 107 #[.pointer (some ⟨sb,0,none⟩),.int .i64 n,.int .i64 pl] w λen w'=>en=.returned (.string (bs (one p.ex p.sm n pl)))∧Below w.heap.size w w'
theorem Lj(rb sb B:Nat)(s tb:ZB)(tp:Value)(p:Rs)(S:Nat->Value)(sv:List (Value×Value))(k:Nat)(ih:Kp (HV rb sb B s tb tp p S sv k))(l:List Nat)(v:Value)(pl:Nat)(w:World)(H:YB w rb sb B s p tb tp S sv)(P:BD w B S v l)(T:∀n∈l,n<k∧n<p.sm.length)(Q:pl+(Bn p.ex p.sm l pl).length<=20000)(G:l.length<=20000) :
  Calls prog 49 #[.pointer (some ⟨sb,0,none⟩),v,.int .i64 pl] w λA M=>A=.returned (.string (bs (Bn p.ex p.sm l pl)))∧Below w.heap.size w M:=by
 have ah:=H.lt;rcases P.1.2 with ⟨rfl,h0⟩|⟨g,U,af,rfl,_⟩
 ·have z:l=[]:=Uk h0;subst z;clear H P T Q G ih;go_in;go_wp2_with fail;go_loopw [7,8] (λX L wr=>X=.string ⟨#[]⟩∧L=.int .i64 0∧Kp (wr=w)) (λ_ _ _=>0);case atStart=>exact⟨rfl,rfl,⟨rfl⟩⟩
  case round=>obtain⟨rfl,rfl,hw⟩:=hrel;go_wp2;go_ret;exact⟨rfl,by rw[hw.o];exact Qh _ _⟩
 ·have C:Kp (BD w B S (.slice (some ⟨g,0,none⟩) l.length U) l):=⟨P⟩
  have H':Kp _:=⟨H⟩
  replace T:=Z_ T;replace Q:=Z_ Q;obtain⟨m,R⟩:∃m,l.length=m:=⟨_,rfl⟩
  rw[R]at G C ⊢;clear H P;go_in;go_wp2_with fail;go_loopw [7,8] (λX L wr=>∃i:Nat,i<=m∧X=.string (bs (Bn p.ex p.sm (l.take i) pl))∧L=.int .i64 i∧Kp (Below w.heap.size w wr)) (λ_ L _=>m-(intOf L).toNat);case atStart=>exact⟨0,by omega,rfl,rfl,⟨Qh _ _⟩⟩
  case round=>
   obtain⟨i,ag,rfl,rfl,F⟩:=hrel;by_cases hi:i<m
   ·have ab:(i:Int)<(m:Int):=by omega
    have y:i<l.length:=by omega
    have b:=T.o l[i] (Ua y);have hA:=H'.o.step F.o;have t:=C.o.step F.o;have hc:wr.cell? ⟨g,i,none⟩=some (.int .i64 (l[i]:Nat)):=by have h:=t.1;rw[R]at h;rw[h.cellAt i (by omega)];unfold IE;rw[Ui,Qn y];rfl
    have aa:g<wr.heap.size:=by have h:=t.1;rw[R]at h;exact(h.lt g rfl).2
    have d:=Zpg (ex:=p.ex) (sm:=p.sm) (pl:=pl) y;have a:=Zsk (ex:=p.ex) (sm:=p.sm) (l:=l) (pl:=pl) (i+1);rw[d,Qe]at a;obtain⟨q,hq⟩:∃q,pl+(Bn p.ex p.sm (l.take i) pl).length/2=q:=⟨_,rfl⟩
    rw[hq]at d a;have I:=Q.o;have ad:q<=40000:=by omega
    have ai:pl<=20000:=by omega
    obtain⟨V,f⟩:∃V,bs (Bn p.ex p.sm (l.take i) pl)=V:=⟨_,rfl⟩
    have E:V.size=(Bn p.ex p.sm (l.take i) pl).length:=by rw[<-f,Zd]
    obtain⟨n,J⟩:∃n,l[i]=n:=⟨_,rfl⟩
    rw[J]at b hc d a;obtain⟨r,j⟩:∃r,bs (one p.ex p.sm n q)=r:=⟨_,rfl⟩
    have D:r.size=(one p.ex p.sm n q).length:=by rw[<-j,Zd]
    have Y:Kp (∀W,Below wr.heap.size wr W->Calls prog 107 #[.pointer (some ⟨sb,0,none⟩),.int .i64 (n:Nat),.int .i64 (q:Nat)] W λA M=>A=.returned (.string r)∧Below W.heap.size W M):=⟨λW Z=>by
     rw[<-j];exact ih.o n q W b.1 (hA.step Z) b.2 (by omega)⟩
    obtain⟨hh,u⟩:∃hh,V.size/2=hh:=⟨_,rfl⟩
    have e:=λW=>Hw V W (by omega);rw[u]at e;have c:bs (Bn p.ex p.sm (l.take (i+1)) pl)=V++r:=by rw[d,Zg,f,j]
    have K:(pl:Int)+(hh:Int)=(q:Int):=by rw[<-u,<-hq,E];omega
    rw[f];have q1:¬(9223372036854775807:Int)<(V.size:Int)+r.size:=by omega
    have q2:¬(9223372036854775807:Int)<((V.size+r.size:Nat):Int):=by omega
    have q3:(V.size:Int)+r.size<=9223372036854775807:=by omega
    have N:=(CY (x:=(q:Int)) (by omega) (by omega)).1;have O:=(CY (x:=(q:Int)) (by omega) (by omega)).2;replace e:=Z_ e;replace c:=Z_ c;replace N:=Z_ N;replace O:=Z_ O;have Ic:Kp (∀W,Below wr.heap.size wr W->W.cell? ⟨g,i,none⟩=some (.int .i64 (n:Nat))):=⟨λW Z=>by rw[Z.cell (p:=⟨g,i,none⟩) aa];exact hc⟩
    clear hA t d a hq I ad f E j D u b J;go_wp2_with fail;replace N:=N.o;replace O:=O.o;go_region_held (λM=>M.cell? ⟨g,i,none⟩=some (.int .i64 (n:Nat))) (go_keep) (first
     | (go_at_call 50;refine(e.o _).mono ?_;rintro A w4 ⟨rfl,ae⟩;subst ae)
     | (go_at_call 107;refine(Y.o _ (by first|exact(Qh _ _).drew|assumption)).mono ?_;rintro A w5 ⟨rfl,bb⟩;have bn:Below wr.heap.size wr w5:=(Qh _ _).drew.trans bb;have oc:=Ic.o _ bn;clear bb))
    all_goals
     clear oc N O K;go_wp2_with fail;go_roundw;case rel=>exact⟨i+1,by omega,by rw[<-c.o],by go_num,⟨F.o.trans (bn.mono F.o.size)⟩⟩
     case measure=>simp[intOf];omega
   ·have ab:¬(i:Int)<(m:Int):=by omega
    have z:i=m:=by omega
    have e2:bs (Bn p.ex p.sm (l.take i) pl)=bs (Bn p.ex p.sm l pl):=by rw[z,<-R,List.take_length]
    rw[e2];obtain⟨V,f⟩:∃V,bs (Bn p.ex p.sm l pl)=V:=⟨_,rfl⟩
    rw[f];replace f:=Z_ f;clear e2;replace z:=Z_ z;go_wp2;go_ret;exact⟨by rw[f.o];rfl,F.o⟩
theorem Zsl(rb sb B:Nat)(s tb:ZB)(tp:Value)(p:Rs)(S:Nat->Value)(sv:List (Value×Value))(Y:BA p.ex)(Z:BY p.ex p.sm)(n pl:Nat)(ih:Kp (HV rb sb B s tb tp p S sv n))(w:World)(H:YB w rb sb B s p tb tp S sv)(x:Sm)(N:p.sm[n]?=some x)(R:pl+(one p.ex p.sm n pl).length<=20000)(hk:x.k=61) :
  Calls prog 107 #[.pointer (some ⟨sb,0,none⟩),.int .i64 n,.int .i64 pl] w λI P=>I=.returned (.string (bs (one p.ex p.sm n pl)))∧Below w.heap.size w P:=by
 have C:=Jf (pl:=pl) Y Z N;rw[if_pos hk]at C;rw[C]at R ⊢;obtain⟨g,c,yy,L,hg,aa,J,K,u⟩:=H.stat N;have hn:n<p.sm.length:=(Ql.1 N).1;have c5:w.cell? ⟨sb,5,none⟩=some (.slice (some ⟨g,0,none⟩) p.sm.length c):=by rw[<-L];exact H.c 1 (by omega)
 obtain⟨y1,y2⟩:=yy;obtain⟨p1,q1,z⟩:=Zc J.1;obtain⟨p2,q2,A⟩:=Zc K.1;have z:y1=.slice p1 x.bo.length q1:=z;have A:y2=.slice p2 x.el.length q2:=A;subst z;subst A;have U:w.cell? ⟨g,n*7,none⟩=some (.int .u8 x.k):=u 0 _ rfl;have d1:=u 1 _ rfl;have d2:=u 2 _ rfl;have d3:=u 3 _ rfl;have d4:=u 4 _ rfl;have d5:=u 5 _ rfl;have d6:=u 6 _ rfl;dsimp only at U d1 d2 d3 d4 d5 d6;have O:=(Z n x N).1;have af:=H.lt;obtain⟨f,r⟩:∃V,bs (AQ p.ex x.e)=V:=⟨_,rfl⟩
 have zE:f.size=(AQ p.ex x.e).length:=by rw[<-r,Zd]
 obtain⟨Q,b⟩:∃Q,w.alloc (.cells #[.int .u8 x.k,.int .i64 x.a,.int .i64 x.v,.int .i64 x.e,.slice p1 x.bo.length q1,.slice p2 x.el.length q2,.bool x.two] 123)=Q:=⟨_,rfl⟩
 have d:=Dd w (.int .u8 x.k) (.int .i64 x.a) (.int .i64 x.v) (.int .i64 x.e) (.slice p1 x.bo.length q1) (.slice p2 x.el.length q2) (.bool x.two) 123;rw[b]at d;have D:Below w.heap.size w Q:=by rw[<-b];exact(Qh _ _).alloc (Qb _) _
 have ag:(n:Int)<(p.sm.length:Int):=by omega
 have hC:Kp (∀W,Below w.heap.size w W->Calls prog 172 #[.pointer (some ⟨sb,0,none⟩),.int .i64 (x.e:Nat)] W λI P=>I=.returned (.string f)∧Below W.heap.size W P):=⟨λW hW=>by
  rw[<-r];exact JS rb sb B s tb tp p S sv Y (x.e+1) x.e W (by omega) (H.step hW) O (by rw[Qe]at R;omega)⟩
 obtain⟨t,j⟩:∃V,bs [(2:Int)%256]=V:=⟨_,rfl⟩
 have ad:t.size=1:=by rw[<-j,Zd];rfl
 have h:=λW=>Zk (2) W;rw[j]at h;replace h:=Z_ h;obtain⟨G,q⟩:∃V,bs [(x.v:Int)%256]=V:=⟨_,rfl⟩
 have ae:G.size=1:=by rw[<-q,Zd];rfl
 have i:=λW=>Zk (x.v) W;rw[q]at i;replace i:=Z_ i;have ab:f.size<=20000:=by rw[zE];rw[Qe]at R;omega
 have y:bs (AQ p.ex x.e++[2,x.v%256])=f++t++G:=by rw[Zg,r,show ([2,x.v%256]:List Int)=[2%256]++[x.v%256] from rfl,Zg,j,q,<-QR]
 rw[y];clear y;have ah:¬(9223372036854775807:Int)<(f.size:Int)+t.size:=by omega
 have aj:¬(9223372036854775807:Int)<((f.size+t.size:Nat):Int):=by omega
 have al:(f.size:Int)+t.size<=9223372036854775807:=by omega
 have ai:¬(9223372036854775807:Int)<(f.size:Int)+t.size+G.size:=by omega
 have ak:¬(9223372036854775807:Int)<((f.size+t.size+G.size:Nat):Int):=by omega
 have am:(f.size:Int)+t.size+G.size<=9223372036854775807:=by omega
 rw[hk]at U b d;generalize x.v=v at *;generalize hm:p.sm.length=m at *;clear ad ae ab;have x0:=d.c 0 _ rfl;have x3:=d.c 3 _ rfl;replace d:=Z_ d;replace D:=Z_ D;replace b:=Z_ b;clear hm;clear H Y N u L aa J K r zE O Z C R ih j q;go_in;go_wp2_with fail;rw[b.o];clear U d1 d2 d3 d4 d5 d6 c5;obtain⟨X,M⟩:∃X,w.heap.size=X:=⟨_,rfl⟩
 rw[M]at x0 x3 d;simp only[M];refine(hC.o _ D.o).mono ?_;rintro I E ⟨rfl,b2⟩;have F:Below Q.heap.size Q E:=b2;have x0:=(d.o.step F).c 0 _ rfl;clear b2;have x2:=(d.o.step F).c 2 _ rfl;go_wp2_with fail;go_region_held (λP=>P.cell? ⟨X,2,none⟩=some (.int .i64 v)) (go_keep) ((go_at_call 51;(first|refine(h.o _).mono ?_|refine(i.o _).mono ?_);rintro I w5 ⟨rfl,T⟩;have bn:Below E.heap.size E w5:=(by first|exact((Qh _ _).drew).trans T|exact Q9 (by assumption) (T.mono (Below.size (w:=E) (by assumption))));have o2:=((d.o.step F).step bn).c 2 _ rfl;clear T));all_goals
  have b9:Below E.heap.size E w5:=by assumption
  go_wp2;go_ret;exact⟨rfl,(D.o.trans (F.mono D.o.size)).trans (b9.mono (Qg D.o.size F.size))⟩
theorem Zsm(rb sb B:Nat)(s tb:ZB)(tp:Value)(p:Rs)(S:Nat->Value)(sv:List (Value×Value))(Y:BA p.ex)(Z:BY p.ex p.sm)(n pl:Nat)(ih:Kp (HV rb sb B s tb tp p S sv n))(w:World)(H:YB w rb sb B s p tb tp S sv)(x:Sm)(N:p.sm[n]?=some x)(R:pl+(one p.ex p.sm n pl).length<=20000)(hk:x.k=62) :
  Calls prog 107 #[.pointer (some ⟨sb,0,none⟩),.int .i64 n,.int .i64 pl] w λI P=>I=.returned (.string (bs (one p.ex p.sm n pl)))∧Below w.heap.size w P:=by
 have C:=Jf (pl:=pl) Y Z N;rw[if_neg (by omega),if_pos hk]at C;rw[C]at R ⊢;obtain⟨g,c,yy,L,hg,aa,J,K,u⟩:=H.stat N;have hn:n<p.sm.length:=(Ql.1 N).1;have c5:w.cell? ⟨sb,5,none⟩=some (.slice (some ⟨g,0,none⟩) p.sm.length c):=by rw[<-L];exact H.c 1 (by omega)
 obtain⟨y1,y2⟩:=yy;obtain⟨p1,q1,z⟩:=Zc J.1;obtain⟨p2,q2,A⟩:=Zc K.1;have z:y1=.slice p1 x.bo.length q1:=z;have A:y2=.slice p2 x.el.length q2:=A;subst z;subst A;have U:w.cell? ⟨g,n*7,none⟩=some (.int .u8 x.k):=u 0 _ rfl;have d1:=u 1 _ rfl;have d2:=u 2 _ rfl;have d3:=u 3 _ rfl;have d4:=u 4 _ rfl;have d5:=u 5 _ rfl;have d6:=u 6 _ rfl;dsimp only at U d1 d2 d3 d4 d5 d6;have O:=(Z n x N).1;have af:=H.lt;obtain⟨f,r⟩:∃V,bs (AQ p.ex x.e)=V:=⟨_,rfl⟩
 have zE:f.size=(AQ p.ex x.e).length:=by rw[<-r,Zd]
 obtain⟨Q,b⟩:∃Q,w.alloc (.cells #[.int .u8 x.k,.int .i64 x.a,.int .i64 x.v,.int .i64 x.e,.slice p1 x.bo.length q1,.slice p2 x.el.length q2,.bool x.two] 123)=Q:=⟨_,rfl⟩
 have d:=Dd w (.int .u8 x.k) (.int .i64 x.a) (.int .i64 x.v) (.int .i64 x.e) (.slice p1 x.bo.length q1) (.slice p2 x.el.length q2) (.bool x.two) 123;rw[b]at d;have D:Below w.heap.size w Q:=by rw[<-b];exact(Qh _ _).alloc (Qb _) _
 have ag:(n:Int)<(p.sm.length:Int):=by omega
 have hC:Kp (∀W,Below w.heap.size w W->Calls prog 172 #[.pointer (some ⟨sb,0,none⟩),.int .i64 (x.e:Nat)] W λI P=>I=.returned (.string f)∧Below W.heap.size W P):=⟨λW hW=>by
  rw[<-r];exact JS rb sb B s tb tp p S sv Y (x.e+1) x.e W (by omega) (H.step hW) O (by rw[Qe]at R;omega)⟩
 obtain⟨t,j⟩:∃V,bs [(11:Int)%256]=V:=⟨_,rfl⟩
 have ad:t.size=1:=by rw[<-j,Zd];rfl
 have h:=λW=>Zk (11) W;rw[j]at h;replace h:=Z_ h;obtain⟨G,q⟩:∃V,bs [(x.v:Int)%256]=V:=⟨_,rfl⟩
 have ae:G.size=1:=by rw[<-q,Zd];rfl
 have i:=λW=>Zk (x.v) W;rw[q]at i;replace i:=Z_ i;have ab:f.size<=20000:=by rw[zE];rw[Qe]at R;omega
 have y:bs (AQ p.ex x.e++[11,x.v%256])=f++t++G:=by rw[Zg,r,show ([11,x.v%256]:List Int)=[11%256]++[x.v%256] from rfl,Zg,j,q,<-QR]
 rw[y];clear y;have ah:¬(9223372036854775807:Int)<(f.size:Int)+t.size:=by omega
 have aj:¬(9223372036854775807:Int)<((f.size+t.size:Nat):Int):=by omega
 have al:(f.size:Int)+t.size<=9223372036854775807:=by omega
 have ai:¬(9223372036854775807:Int)<(f.size:Int)+t.size+G.size:=by omega
 have ak:¬(9223372036854775807:Int)<((f.size+t.size+G.size:Nat):Int):=by omega
 have am:(f.size:Int)+t.size+G.size<=9223372036854775807:=by omega
 rw[hk]at U b d;generalize x.v=v at *;generalize hm:p.sm.length=m at *;clear ad ae ab;have x0:=d.c 0 _ rfl;have x3:=d.c 3 _ rfl;replace d:=Z_ d;replace D:=Z_ D;replace b:=Z_ b;clear hm;clear H Y N u L aa J K r zE O Z C R ih j q;go_in;go_wp2_with fail;rw[b.o];clear U d1 d2 d3 d4 d5 d6 c5;obtain⟨X,M⟩:∃X,w.heap.size=X:=⟨_,rfl⟩
 rw[M]at x0 x3 d;simp only[M];refine(hC.o _ D.o).mono ?_;rintro I E ⟨rfl,b2⟩;have F:Below Q.heap.size Q E:=b2;have x0:=(d.o.step F).c 0 _ rfl;clear b2;have x2:=(d.o.step F).c 2 _ rfl;go_wp2_with fail;go_region_held (λP=>P.cell? ⟨X,2,none⟩=some (.int .i64 v)) (go_keep) ((go_at_call 51;(first|refine(h.o _).mono ?_|refine(i.o _).mono ?_);rintro I w5 ⟨rfl,T⟩;have bn:Below E.heap.size E w5:=(by first|exact((Qh _ _).drew).trans T|exact Q9 (by assumption) (T.mono (Below.size (w:=E) (by assumption))));have o2:=((d.o.step F).step bn).c 2 _ rfl;clear T));all_goals
  have b9:Below E.heap.size E w5:=by assumption
  go_wp2;go_ret;exact⟨rfl,(D.o.trans (F.mono D.o.size)).trans (b9.mono (Qg D.o.size F.size))⟩
theorem Zsn(rb sb B:Nat)(s tb:ZB)(tp:Value)(p:Rs)(S:Nat->Value)(sv:List (Value×Value))(hE:BA p.ex)(hS:BY p.ex p.sm)(n pl:Nat)(ih:Kp (HV rb sb B s tb tp p S sv n))(w:World)(H:YB w rb sb B s p tb tp S sv)(x:Sm)(hx:p.sm[n]?=some x)(aq:x.bo.length<=20000)(hl:pl+(one p.ex p.sm n pl).length<=20000)(hk:x.k=64) :
  Calls prog 107 #[.pointer (some ⟨sb,0,none⟩),.int .i64 n,.int .i64 pl] w λr w'=>r=.returned (.string (bs (one p.ex p.sm n pl)))∧Below w.heap.size w w':=by
 have aj:=Jf (pl:=pl) hE hS hx;rw[if_neg (by omega),if_neg (by omega),if_pos hk]at aj;rw[aj]at hl ⊢;obtain⟨g,c,yy,an,hg,aA,ad,ae,X⟩:=H.stat hx;have hn:n<p.sm.length:=(Ql.1 hx).1;have c5:w.cell? ⟨sb,5,none⟩=some (.slice (some ⟨g,0,none⟩) p.sm.length c):=by rw[<-an];exact H.c 1 (by omega)
 obtain⟨y1,y2⟩:=yy;obtain⟨p1,q1,aa⟩:=Zc ad.1;obtain⟨p2,q2,ab⟩:=Zc ae.1;have aa:y1=.slice p1 x.bo.length q1:=aa;have ab:y2=.slice p2 x.el.length q2:=ab;subst aa;subst ab;have d0:w.cell? ⟨g,n*7,none⟩=some (.int .u8 x.k):=X 0 _ rfl;have d1:=X 1 _ rfl;have d2:=X 2 _ rfl;have d3:=X 3 _ rfl;have d4:=X 4 _ rfl;have d5:=X 5 _ rfl;have d6:=X 6 _ rfl;dsimp only at d0 d1 d2 d3 d4 d5 d6;have av:=(hS n x hx).1;have aM:=H.lt;obtain⟨b,L⟩:∃V,bs (AQ p.ex x.e)=V:=⟨_,rfl⟩
 have zE:b.size=(AQ p.ex x.e).length:=by rw[<-L,Zd]
 obtain⟨wx,t⟩:∃wx,w.alloc (.cells #[.int .u8 x.k,.int .i64 x.a,.int .i64 x.v,.int .i64 x.e,.slice p1 x.bo.length q1,.slice p2 x.el.length q2,.bool x.two] 123)=wx:=⟨_,rfl⟩
 have h:=Dd w (.int .u8 x.k) (.int .i64 x.a) (.int .i64 x.v) (.int .i64 x.e) (.slice p1 x.bo.length q1) (.slice p2 x.el.length q2) (.bool x.two) 123;rw[t]at h;have bx:Below w.heap.size w wx:=by rw[<-t];exact(Qh _ _).alloc (Qb _) _
 have aN:(n:Int)<(p.sm.length:Int):=by omega
 have ap:pl+(AQ p.ex x.e).length+2+(Bn p.ex p.sm x.bo (pl+(AQ p.ex x.e).length/2+1)).length<=20000:=by simp only[Qe,Qt,Qy]at hl;omega
 have hC:Kp (∀W,Below w.heap.size w W->Calls prog 172 #[.pointer (some ⟨sb,0,none⟩),.int .i64 (x.e:Nat)] W λr w'=>r=.returned (.string b)∧Below W.heap.size W w'):=⟨λW hW=>by
  rw[<-L];exact JS rb sb B s tb tp p S sv hE (x.e+1) x.e W (by omega) (H.step hW) av (by omega)⟩
 have U:=ad;have am:=ae;have ag:=(hS n x hx).2.1;have ax:=(hS n x hx).2.2;obtain⟨u,ai⟩:∃u:Nat,pl+(AQ p.ex x.e).length/2+1=u:=⟨_,rfl⟩
 rw[ai]at hl ap ⊢;obtain⟨i,K⟩:∃V,bs (Bn p.ex p.sm x.bo u)=V:=⟨_,rfl⟩
 have zB:i.size=(Bn p.ex p.sm x.bo u).length:=by rw[<-K,Zd]
 have aw:Kp (∀W,Below w.heap.size w W->Calls prog 49 #[.pointer (some ⟨sb,0,none⟩),.slice p1 x.bo.length q1,.int .i64 (u:Nat)] W λr w'=>r=.returned (.string i)∧Below W.heap.size W w'):=⟨λW hW=>by
  rw[<-K];exact Lj rb sb B s tb tp p S sv n ih x.bo _ u W (H.step hW) (U.step hW) (λm hm=>⟨ag m hm,by have:=ag m hm;omega⟩) (by omega) aq⟩
 obtain⟨th,ak⟩:∃th:Nat,u+(Bn p.ex p.sm x.bo u).length/2=th:=⟨_,rfl⟩
 rw[ak]at hl ⊢;obtain⟨d,Z⟩:∃d:Nat,th+1=d:=⟨_,rfl⟩
 obtain⟨eh,ah⟩:∃eh:Nat,b.size/2=eh:=⟨_,rfl⟩
 obtain⟨bh,af⟩:∃bh:Nat,i.size/2=bh:=⟨_,rfl⟩
 have G:=λW=>Hw b W (by omega);rw[ah]at G;replace G:=Z_ G;have F:=λW=>Hw i W (by omega)
 rw[af]at F;replace F:=Z_ F;have s1:(pl:Int)+(eh:Int)+1=(u:Int):=by rw[<-ah,<-ai,zE];omega
 have s2:(u:Int)+(bh:Int)=(th:Int):=by rw[<-af,<-ak,zB];omega
 have s3:(th:Int)+1=(d:Int):=by omega
 have t0:(pl:Int)<=20000:=by omega
 have t1:(eh:Int)<=20000:=by omega
 have t2:(bh:Int)<=20000:=by omega
 have t3:(u:Int)<=40000:=by omega
 have t4:(th:Int)<=60000:=by omega
 have t5:(d:Int)<=60001:=by omega
 have s0:(pl:Int)+(eh:Int)<=40000:=by omega
 obtain⟨f,J⟩:∃V,bs [(9:Int)%256]=V:=⟨_,rfl⟩
 have aG:f.size=1:=by rw[<-J,Zd];rfl
 have C:=λW=>Zk (9) W;rw[J]at C;replace C:=Z_ C;obtain⟨j,N⟩:∃V,bs [((d:Nat):Int)%256]=V:=⟨_,rfl⟩
 have aI:j.size=1:=by rw[<-N,Zd];rfl
 have E:=λW=>Zk ((d:Nat)) W;rw[N]at E;replace E:=Z_ E;obtain⟨P,I⟩:∃V,bs [(8:Int)%256]=V:=⟨_,rfl⟩
 have aF:P.size=1:=by rw[<-I,Zd];rfl
 have A:=λW=>Zk (8) W;rw[I]at A;replace A:=Z_ A;obtain⟨Vp,M⟩:∃V,bs [((pl:Nat):Int)%256]=V:=⟨_,rfl⟩
 have aH:Vp.size=1:=by rw[<-M,Zd];rfl
 have D:=λW=>Zk ((pl:Nat)) W;rw[M]at D;replace D:=Z_ D;rw[Z]at hl ⊢;have Y:bs (AQ p.ex x.e++[9,(d:Int)%256]++Bn p.ex p.sm x.bo u++[8,(pl:Int)%256])=b++f++j++i++P++Vp:=by rw[Zg,Zg,Zg,L,K,show ([9,(d:Int)%256]:List Int)=[9%256]++[(d:Int)%256] from rfl,show ([8,(pl:Int)%256]:List Int)=[8%256]++[(pl:Int)%256] from rfl,Zg,Zg,J,N,I,M];simp only[QR]
 rw[Y];clear Y;have aO:¬(9223372036854775807:Int)<(b.size:Int)+f.size:=by omega
 have aT:¬(9223372036854775807:Int)<((b.size+f.size:Nat):Int):=by omega
 have aY:(b.size:Int)+f.size<=9223372036854775807:=by omega
 have aP:¬(9223372036854775807:Int)<(b.size:Int)+f.size+j.size:=by omega
 have aU:¬(9223372036854775807:Int)<((b.size+f.size+j.size:Nat):Int):=by omega
 have aZ:(b.size:Int)+f.size+j.size<=9223372036854775807:=by omega
 have aQ:¬(9223372036854775807:Int)<(b.size:Int)+f.size+j.size+i.size:=by omega
 have aV:¬(9223372036854775807:Int)<((b.size+f.size+j.size+i.size:Nat):Int):=by omega
 have a0:(b.size:Int)+f.size+j.size+i.size<=9223372036854775807:=by omega
 have aR:¬(9223372036854775807:Int)<(b.size:Int)+f.size+j.size+i.size+P.size:=by omega
 have aW:¬(9223372036854775807:Int)<((b.size+f.size+j.size+i.size+P.size:Nat):Int):=by omega
 have a1:(b.size:Int)+f.size+j.size+i.size+P.size<=9223372036854775807:=by omega
 have aS:¬(9223372036854775807:Int)<(b.size:Int)+f.size+j.size+i.size+P.size+Vp.size:=by omega
 have aX:¬(9223372036854775807:Int)<((b.size+f.size+j.size+i.size+P.size+Vp.size:Nat):Int):=by omega
 have a2:(b.size:Int)+f.size+j.size+i.size+P.size+Vp.size<=9223372036854775807:=by omega
 generalize x.bo.length=lb at *;generalize x.el.length=le at *;generalize hm:p.sm.length=m at *;rw[hk]at d0 t h;have x0:=h.c 0 _ rfl;have x3:=h.c 3 _ rfl;replace h:=Z_ h;replace bx:=Z_ bx;replace t:=Z_ t;clear hm;clear H hE hx X an aA ad ae L zE av hS aj hl ih J N I M aG aI aF aH ap ag ax U am ai ak Z ah af K zB aq;go_in;go_wp2_with fail;rw[t.o];clear d0 d1 d2 d3 d4 d5 d6 c5;obtain⟨gx,ao⟩:∃gx,w.heap.size=gx:=⟨_,rfl⟩
 rw[ao]at x0 x3 h;simp only[ao];refine(hC.o _ bx.o).mono ?_;rintro r y ⟨rfl,b2⟩;have O:Below wx.heap.size wx y:=b2;have x0:=(h.o.step O).c 0 _ rfl;clear b2;have bw:Below w.heap.size w y:=bx.o.trans (O.mono bx.o.size);have x4:=(h.o.step O).c 4 _ rfl;have x5:=(h.o.step O).c 5 _ rfl;have x6:=(h.o.step O).c 6 _ rfl;go_wp2_with fail;refine(G.o _).mono ?_;rintro r w3 ⟨rfl,ar⟩;have ay:=ar.symm;clear ar;subst ay;go_wp2_with fail;refine(aw.o _ bw).mono ?_;rintro r w5 ⟨rfl,q⟩;have z:Below y.heap.size y w5:=q;clear q;have aJ:=((h.o.step O).step z).c 0 _ rfl;have aK:=((h.o.step O).step z).c 5 _ rfl;have aL:=((h.o.step O).step z).c 6 _ rfl;clear x4 x5 x6;go_wp2_with fail;refine(F.o _).mono ?_;rintro r w6 ⟨rfl,au⟩;have az:=au.symm;clear au;subst az;go_wp2_with fail;refine(C.o _).mono ?_;rintro r aB ⟨rfl,q⟩;have Q:Below y.heap.size y aB:=z.trans (q.mono z.size);clear q;go_wp2_with fail;refine(E.o _).mono ?_;rintro r aC ⟨rfl,q⟩;have R:Below y.heap.size y aC:=Q.trans (q.mono Q.size);clear q;go_wp2_with fail;refine(A.o _).mono ?_;rintro r aD ⟨rfl,q⟩;have T:Below y.heap.size y aD:=R.trans (q.mono R.size);clear q;go_wp2_with fail;refine(D.o _).mono ?_;rintro r aE ⟨rfl,q⟩;have al:Below y.heap.size y aE:=T.trans (q.mono T.size);clear q;go_wp2;go_ret;exact⟨rfl,bw.trans (al.mono bw.size)⟩
theorem Zso(rb sb B:Nat)(s tb:ZB)(tp:Value)(p:Rs)(S:Nat->Value)(sv:List (Value×Value))(hE:BA p.ex)(hS:BY p.ex p.sm)(n pl:Nat)(ih:Kp (HV rb sb B s tb tp p S sv n))(w:World)(H:YB w rb sb B s p tb tp S sv)(x:Sm)(hx:p.sm[n]?=some x)(am:x.bo.length<=20000)(hl:pl+(one p.ex p.sm n pl).length<=20000)(af:¬x.k=61)(ag:¬x.k=62)(ah:¬x.k=64)(h2:x.two=false) :
  Calls prog 107 #[.pointer (some ⟨sb,0,none⟩),.int .i64 n,.int .i64 pl] w λq w'=>q=.returned (.string (bs (one p.ex p.sm n pl)))∧Below w.heap.size w w':=by
 have ab:=Jf (pl:=pl) hE hS hx;rw[if_neg af,if_neg ag,if_neg ah,if_pos h2]at ab;rw[ab]at hl ⊢;obtain⟨g,c,yy,aj,hg,ax,T,U,N⟩:=H.stat hx;have hn:n<p.sm.length:=(Ql.1 hx).1;have c5:w.cell? ⟨sb,5,none⟩=some (.slice (some ⟨g,0,none⟩) p.sm.length c):=by rw[<-aj];exact H.c 1 (by omega)
 obtain⟨y1,y2⟩:=yy;obtain⟨p1,q1,Q⟩:=Zc T.1;obtain⟨p2,q2,R⟩:=Zc U.1;have Q:y1=.slice p1 x.bo.length q1:=Q;have R:y2=.slice p2 x.el.length q2:=R;subst Q;subst R;have d0:w.cell? ⟨g,n*7,none⟩=some (.int .u8 x.k):=N 0 _ rfl;have d1:=N 1 _ rfl;have d2:=N 2 _ rfl;have d3:=N 3 _ rfl;have d4:=N 4 _ rfl;have d5:=N 5 _ rfl;have d6:=N 6 _ rfl;dsimp only at d0 d1 d2 d3 d4 d5 d6;have aq:=(hS n x hx).1;have aF:=H.lt;obtain⟨d,D⟩:∃V,bs (AQ p.ex x.e)=V:=⟨_,rfl⟩
 have zE:d.size=(AQ p.ex x.e).length:=by rw[<-D,Zd]
 obtain⟨wx,f⟩:∃wx,w.alloc (.cells #[.int .u8 x.k,.int .i64 x.a,.int .i64 x.v,.int .i64 x.e,.slice p1 x.bo.length q1,.slice p2 x.el.length q2,.bool x.two] 123)=wx:=⟨_,rfl⟩
 have b:=Dd w (.int .u8 x.k) (.int .i64 x.a) (.int .i64 x.v) (.int .i64 x.e) (.slice p1 x.bo.length q1) (.slice p2 x.el.length q2) (.bool x.two) 123;rw[f]at b;have bx:Below w.heap.size w wx:=by rw[<-f];exact(Qh _ _).alloc (Qb _) _
 have aG:(n:Int)<(p.sm.length:Int):=by omega
 have al:pl+(AQ p.ex x.e).length+2+(Bn p.ex p.sm x.bo (pl+(AQ p.ex x.e).length/2+1)).length<=20000:=by simp only[Qe,Qt,Qy]at hl;omega
 have hC:Kp (∀W,Below w.heap.size w W->Calls prog 172 #[.pointer (some ⟨sb,0,none⟩),.int .i64 (x.e:Nat)] W λq w'=>q=.returned (.string d)∧Below W.heap.size W w'):=⟨λW hW=>by
  rw[<-D];exact JS rb sb B s tb tp p S sv hE (x.e+1) x.e W (by omega) (H.step hW) aq (by omega)⟩
 have M:=T;have ai:=U;have Y:=(hS n x hx).2.1;have au:=(hS n x hx).2.2;obtain⟨h,aa⟩:∃h:Nat,pl+(AQ p.ex x.e).length/2+1=h:=⟨_,rfl⟩
 rw[aa]at hl al ⊢;obtain⟨I,C⟩:∃V,bs (Bn p.ex p.sm x.bo h)=V:=⟨_,rfl⟩
 have zB:I.size=(Bn p.ex p.sm x.bo h).length:=by rw[<-C,Zd]
 have ar:Kp (∀W,Below w.heap.size w W->Calls prog 49 #[.pointer (some ⟨sb,0,none⟩),.slice p1 x.bo.length q1,.int .i64 (h:Nat)] W λq w'=>q=.returned (.string I)∧Below W.heap.size W w'):=⟨λW hW=>by
  rw[<-C];exact Lj rb sb B s tb tp p S sv n ih x.bo _ h W (H.step hW) (M.step hW) (λm hm=>⟨Y m hm,by have:=Y m hm;omega⟩) (by omega) am⟩
 obtain⟨r,ad⟩:∃r:Nat,h+(Bn p.ex p.sm x.bo h).length/2=r:=⟨_,rfl⟩
 rw[ad]at hl ⊢;obtain⟨F,an⟩:∃F:Nat,r+1=F:=⟨_,rfl⟩
 obtain⟨eh,Z⟩:∃eh:Nat,d.size/2=eh:=⟨_,rfl⟩
 obtain⟨bh,X⟩:∃bh:Nat,I.size/2=bh:=⟨_,rfl⟩
 have z:=λW=>Hw d W (by omega);rw[Z]at z;replace z:=Z_ z;have y:=λW=>Hw I W (by omega)
 rw[X]at y;replace y:=Z_ y;have s1:(pl:Int)+(eh:Int)+1=(h:Int):=by rw[<-Z,<-aa,zE];omega
 have s2:(h:Int)+(bh:Int)=(r:Int):=by rw[<-X,<-ad,zB];omega
 have s3:(r:Int)+1=(F:Int):=by omega
 have t0:(pl:Int)<=20000:=by omega
 have t1:(eh:Int)<=20000:=by omega
 have t2:(bh:Int)<=20000:=by omega
 have t3:(h:Int)<=40000:=by omega
 have t4:(r:Int)<=60000:=by omega
 have t5:(F:Int)<=60001:=by omega
 have s0:(pl:Int)+(eh:Int)<=40000:=by omega
 obtain⟨i,A⟩:∃V,bs [(9:Int)%256]=V:=⟨_,rfl⟩
 have aA:i.size=1:=by rw[<-A,Zd];rfl
 have t:=λW=>Zk (9) W;rw[A]at t;replace t:=Z_ t;obtain⟨J,E⟩:∃V,bs [(r:Int)%256]=V:=⟨_,rfl⟩
 have aB:J.size=1:=by rw[<-E,Zd];rfl
 have u:=λW=>Zk (r) W;rw[E]at u;replace u:=Z_ u;have O:bs (AQ p.ex x.e++[9,(r:Int)%256]++Bn p.ex p.sm x.bo h)=d++i++J++I:=by rw[Zg,Zg,D,C,show ([9,(r:Int)%256]:List Int)=[9%256]++[(r:Int)%256] from rfl,Zg,A,E,<-QR]
 rw[O];clear O;have aK:¬(9223372036854775807:Int)<(d.size:Int)+i.size:=by omega
 have aN:¬(9223372036854775807:Int)<((d.size+i.size:Nat):Int):=by omega
 have aQ:(d.size:Int)+i.size<=9223372036854775807:=by omega
 have aL:¬(9223372036854775807:Int)<(d.size:Int)+i.size+J.size:=by omega
 have aO:¬(9223372036854775807:Int)<((d.size+i.size+J.size:Nat):Int):=by omega
 have aR:(d.size:Int)+i.size+J.size<=9223372036854775807:=by omega
 have aM:¬(9223372036854775807:Int)<(d.size:Int)+i.size+J.size+I.size:=by omega
 have aP:¬(9223372036854775807:Int)<((d.size+i.size+J.size+I.size:Nat):Int):=by omega
 have aS:(d.size:Int)+i.size+J.size+I.size<=9223372036854775807:=by omega
 generalize x.bo.length=lb at *;generalize x.el.length=le at *;generalize hm:p.sm.length=m at *;rw[h2]at d6 f b;have aH:(x.k==61)=false:=Qf.2 af;have aI:(x.k==62)=false:=Qf.2 ag;have aJ:(x.k==64)=false:=Qf.2 ah;generalize x.k=kk at *;have x0:=b.c 0 _ rfl;have x3:=b.c 3 _ rfl;replace b:=Z_ b;replace bx:=Z_ bx;replace f:=Z_ f;clear hm;clear H hE hx N aj ax T U D zE aq hS ab hl ih A E aA aB al Y au M ai aa ad an Z X C zB am;go_in;go_wp2_with fail;rw[f.o];clear d0 d1 d2 d3 d4 d5 d6 c5;obtain⟨gx,ak⟩:∃gx,w.heap.size=gx:=⟨_,rfl⟩
 rw[ak]at x0 x3 b;simp only[ak];refine(hC.o _ bx.o).mono ?_;rintro q P ⟨rfl,b2⟩;have G:Below wx.heap.size wx P:=b2;have x0:=(b.o.step G).c 0 _ rfl;clear b2;have bw:Below w.heap.size w P:=bx.o.trans (G.mono bx.o.size);have x4:=(b.o.step G).c 4 _ rfl;have x5:=(b.o.step G).c 5 _ rfl;have x6:=(b.o.step G).c 6 _ rfl;go_wp2_with fail;refine(z.o _).mono ?_;rintro q w3 ⟨rfl,ao⟩;have av:=ao.symm;clear ao;subst av;go_wp2_with fail;refine(ar.o _ bw).mono ?_;rintro q w5 ⟨rfl,K⟩;have j:Below P.heap.size P w5:=K;clear K;have aC:=((b.o.step G).step j).c 0 _ rfl;have aD:=((b.o.step G).step j).c 5 _ rfl;have aE:=((b.o.step G).step j).c 6 _ rfl;clear x4 x5 x6;go_wp2_with fail;refine(y.o _).mono ?_;rintro q w6 ⟨rfl,ap⟩;have aw:=ap.symm;clear ap;subst aw;go_wp2_with fail;refine(t.o _).mono ?_;rintro q ay ⟨rfl,K⟩;have L:Below P.heap.size P ay:=j.trans (K.mono j.size);clear K;go_wp2_with fail;refine(u.o _).mono ?_;rintro q az ⟨rfl,K⟩;have ae:Below P.heap.size P az:=L.trans (K.mono L.size);clear K;go_wp2;go_ret;exact⟨rfl,bw.trans (ae.mono bw.size)⟩
theorem Zsp(rb sb B:Nat)(s tb:ZB)(tp:Value)(p:Rs)(S:Nat->Value)(sv:List (Value×Value))(hE:BA p.ex)(hS:BY p.ex p.sm)(n pl:Nat)(ih:Kp (HV rb sb B s tb tp p S sv n))(w:World)(H:YB w rb sb B s p tb tp S sv)(x:Sm)(hx:p.sm[n]?=some x)(aD:x.bo.length<=20000)(aE:x.el.length<=20000)(hl:pl+(one p.ex p.sm n pl).length<=20000)(ax:¬x.k=61)(ay:¬x.k=62)(az:¬x.k=64)(h2:x.two=true) :
  Calls prog 107 #[.pointer (some ⟨sb,0,none⟩),.int .i64 n,.int .i64 pl] w λr w'=>r=.returned (.string (bs (one p.ex p.sm n pl)))∧Below w.heap.size w w':=by
 have ar:=Jf (pl:=pl) hE hS hx;rw[if_neg ax,if_neg ay,if_neg az,if_neg (by rw[h2];simp)]at ar;rw[ar]at hl ⊢;obtain⟨g,c,yy,aA,hg,aR,aj,ak,hc⟩:=H.stat hx;have hn:n<p.sm.length:=(Ql.1 hx).1;have c5:w.cell? ⟨sb,5,none⟩=some (.slice (some ⟨g,0,none⟩) p.sm.length c):=by rw[<-aA];exact H.c 1 (by omega)
 obtain⟨y1,y2⟩:=yy;obtain⟨p1,q1,ah⟩:=Zc aj.1;obtain⟨p2,q2,ai⟩:=Zc ak.1;have ah:y1=.slice p1 x.bo.length q1:=ah;have ai:y2=.slice p2 x.el.length q2:=ai;subst ah;subst ai;have d0:w.cell? ⟨g,n*7,none⟩=some (.int .u8 x.k):=hc 0 _ rfl;have d1:=hc 1 _ rfl;have d2:=hc 2 _ rfl;have d3:=hc 3 _ rfl;have d4:=hc 4 _ rfl;have d5:=hc 5 _ rfl;have d6:=hc 6 _ rfl;dsimp only at d0 d1 d2 d3 d4 d5 d6;have aH:=(hS n x hx).1;have a0:=H.lt;obtain⟨d,R⟩:∃V,bs (AQ p.ex x.e)=V:=⟨_,rfl⟩
 have zE:d.size=(AQ p.ex x.e).length:=by rw[<-R,Zd]
 obtain⟨wx,A⟩:∃wx,w.alloc (.cells #[.int .u8 x.k,.int .i64 x.a,.int .i64 x.v,.int .i64 x.e,.slice p1 x.bo.length q1,.slice p2 x.el.length q2,.bool x.two] 123)=wx:=⟨_,rfl⟩
 have t:=Dd w (.int .u8 x.k) (.int .i64 x.a) (.int .i64 x.v) (.int .i64 x.e) (.slice p1 x.bo.length q1) (.slice p2 x.el.length q2) (.bool x.two) 123;rw[A]at t;have bx:Below w.heap.size w wx:=by rw[<-A];exact(Qh _ _).alloc (Qb _) _
 have a1:(n:Int)<(p.sm.length:Int):=by omega
 have aC:pl+(AQ p.ex x.e).length+2+(Bn p.ex p.sm x.bo (pl+(AQ p.ex x.e).length/2+1)).length<=20000:=by simp only[Qe,Qt,Qy]at hl;omega
 have hC:Kp (∀W,Below w.heap.size w W->Calls prog 172 #[.pointer (some ⟨sb,0,none⟩),.int .i64 (x.e:Nat)] W λr w'=>r=.returned (.string d)∧Below W.heap.size W w'):=⟨λW hW=>by
  rw[<-R];exact JS rb sb B s tb tp p S sv hE (x.e+1) x.e W (by omega) (H.step hW) aH (by omega)⟩
 have ae:=aj;have af:=ak;have am:=(hS n x hx).2.1;have ao:=(hS n x hx).2.2;obtain⟨C,ap⟩:∃C:Nat,pl+(AQ p.ex x.e).length/2+1=C:=⟨_,rfl⟩
 rw[ap]at hl aC ⊢;obtain⟨i,Q⟩:∃V,bs (Bn p.ex p.sm x.bo C)=V:=⟨_,rfl⟩
 have zB:i.size=(Bn p.ex p.sm x.bo C).length:=by rw[<-Q,Zd]
 have aM:Kp (∀W,Below w.heap.size w W->Calls prog 49 #[.pointer (some ⟨sb,0,none⟩),.slice p1 x.bo.length q1,.int .i64 (C:Nat)] W λr w'=>r=.returned (.string i)∧Below W.heap.size W w'):=⟨λW hW=>by
  rw[<-Q];exact Lj rb sb B s tb tp p S sv n ih x.bo _ C W (H.step hW) (ae.step hW) (λm hm=>⟨am m hm,by have:=am m hm;omega⟩) (by omega) aD⟩
 obtain⟨th,au⟩:∃th:Nat,C+(Bn p.ex p.sm x.bo C).length/2=th:=⟨_,rfl⟩
 rw[au]at hl ⊢;obtain⟨b,F⟩:∃b:Nat,th+1=b:=⟨_,rfl⟩
 obtain⟨eh,an⟩:∃eh:Nat,d.size/2=eh:=⟨_,rfl⟩
 obtain⟨bh,al⟩:∃bh:Nat,i.size/2=bh:=⟨_,rfl⟩
 have M:=λW=>Hw d W (by omega);rw[an]at M;replace M:=Z_ M;have L:=λW=>Hw i W (by omega)
 rw[al]at L;replace L:=Z_ L;have s1:(pl:Int)+(eh:Int)+1=(C:Int):=by rw[<-an,<-ap,zE];omega
 have s2:(C:Int)+(bh:Int)=(th:Int):=by rw[<-al,<-au,zB];omega
 have s3:(th:Int)+1=(b:Int):=by omega
 have t0:(pl:Int)<=20000:=by omega
 have t1:(eh:Int)<=20000:=by omega
 have t2:(bh:Int)<=20000:=by omega
 have t3:(C:Int)<=40000:=by omega
 have t4:(th:Int)<=60000:=by omega
 have t5:(b:Int)<=60001:=by omega
 have s0:(pl:Int)+(eh:Int)<=40000:=by omega
 have aO:b+(Bn p.ex p.sm x.el b).length<=20000:=by rw[<-F];simp only[Qe,Qt,Qy]at hl;omega
 rw[F]at hl ⊢;obtain⟨VO,T⟩:∃V,bs (Bn p.ex p.sm x.el b)=V:=⟨_,rfl⟩
 have zO:VO.size=(Bn p.ex p.sm x.el b).length:=by rw[<-T,Zd]
 have aN:Kp (∀W,Below w.heap.size w W->Calls prog 49 #[.pointer (some ⟨sb,0,none⟩),.slice p2 x.el.length q2,.int .i64 (b:Nat)] W λr w'=>r=.returned (.string VO)∧Below W.heap.size W w'):=⟨λW hW=>by
  rw[<-T];exact Lj rb sb B s tb tp p S sv n ih x.el _ b W (H.step hW) (af.step hW) (λm hm=>⟨ao m hm,by have:=ao m hm;omega⟩) (by omega) aE⟩
 obtain⟨oh,aq⟩:∃oh:Nat,VO.size/2=oh:=⟨_,rfl⟩
 have N:=λW=>Hw VO W (by omega);rw[aq]at N;replace N:=Z_ N;obtain⟨h,E⟩:∃h:Nat,b+(Bn p.ex p.sm x.el b).length/2=h:=⟨_,rfl⟩
 rw[E]at hl ⊢;have s4:(b:Int)+(oh:Int)=(h:Int):=by rw[<-aq,<-E,zO];omega
 have t6:(oh:Int)<=20000:=by omega
 have t7:(h:Int)<=90000:=by omega
 obtain⟨f,P⟩:∃V,bs [(9:Int)%256]=V:=⟨_,rfl⟩
 have aX:f.size=1:=by rw[<-P,Zd];rfl
 have I:=λW=>Zk (9) W;rw[P]at I;replace I:=Z_ I;obtain⟨j,X⟩:∃V,bs [((b:Nat):Int)%256]=V:=⟨_,rfl⟩
 have aZ:j.size=1:=by rw[<-X,Zd];rfl
 have K:=λW=>Zk ((b:Nat)) W;rw[X]at K;replace K:=Z_ K;obtain⟨D,O⟩:∃V,bs [(8:Int)%256]=V:=⟨_,rfl⟩
 have aW:D.size=1:=by rw[<-O,Zd];rfl
 have G:=λW=>Zk (8) W;rw[O]at G;replace G:=Z_ G;obtain⟨Vp,U⟩:∃V,bs [((h:Nat):Int)%256]=V:=⟨_,rfl⟩
 have aY:Vp.size=1:=by rw[<-U,Zd];rfl
 have J:=λW=>Zk ((h:Nat)) W;rw[U]at J;replace J:=Z_ J;have ag:bs (AQ p.ex x.e++[9,(b:Int)%256]++Bn p.ex p.sm x.bo C++[8,(h:Int)%256]++Bn p.ex p.sm x.el b)=d++f++j++i++D++Vp++VO:=by rw[Zg,Zg,Zg,Zg,R,Q,T,show ([9,(b:Int)%256]:List Int)=[9%256]++[(b:Int)%256] from rfl,show ([8,(h:Int)%256]:List Int)=[8%256]++[(h:Int)%256] from rfl,Zg,Zg,P,X,O,U];simp only[QR]
 rw[ag];clear ag;have a5:¬(9223372036854775807:Int)<(d.size:Int)+f.size:=by omega
 have bc:¬(9223372036854775807:Int)<((d.size+f.size:Nat):Int):=by omega
 have bj:(d.size:Int)+f.size<=9223372036854775807:=by omega
 have a6:¬(9223372036854775807:Int)<(d.size:Int)+f.size+j.size:=by omega
 have bd:¬(9223372036854775807:Int)<((d.size+f.size+j.size:Nat):Int):=by omega
 have bk:(d.size:Int)+f.size+j.size<=9223372036854775807:=by omega
 have a7:¬(9223372036854775807:Int)<(d.size:Int)+f.size+j.size+i.size:=by omega
 have be:¬(9223372036854775807:Int)<((d.size+f.size+j.size+i.size:Nat):Int):=by omega
 have bm:(d.size:Int)+f.size+j.size+i.size<=9223372036854775807:=by omega
 have a8:¬(9223372036854775807:Int)<(d.size:Int)+f.size+j.size+i.size+D.size:=by omega
 have bf:¬(9223372036854775807:Int)<((d.size+f.size+j.size+i.size+D.size:Nat):Int):=by omega
 have bn:(d.size:Int)+f.size+j.size+i.size+D.size<=9223372036854775807:=by omega
 have a9:¬(9223372036854775807:Int)<(d.size:Int)+f.size+j.size+i.size+D.size+Vp.size:=by omega
 have bg:¬(9223372036854775807:Int)<((d.size+f.size+j.size+i.size+D.size+Vp.size:Nat):Int):=by omega
 have bp:(d.size:Int)+f.size+j.size+i.size+D.size+Vp.size<=9223372036854775807:=by omega
 have ba:¬(9223372036854775807:Int)<(d.size:Int)+f.size+j.size+i.size+D.size+Vp.size+VO.size:=by omega
 have bi:¬(9223372036854775807:Int)<((d.size+f.size+j.size+i.size+D.size+Vp.size+VO.size:Nat):Int):=by omega
 have bq:(d.size:Int)+f.size+j.size+i.size+D.size+Vp.size+VO.size<=9223372036854775807:=by omega
 generalize x.bo.length=lb at *;generalize x.el.length=le at *;generalize hm:p.sm.length=m at *;rw[h2]at d6 A t;have a2:(x.k==61)=false:=Qf.2 ax;have a3:(x.k==62)=false:=Qf.2 ay;have a4:(x.k==64)=false:=Qf.2 az;generalize x.k=kk at *;have x0:=t.c 0 _ rfl;have x3:=t.c 3 _ rfl;replace t:=Z_ t;replace bx:=Z_ bx;replace A:=Z_ A;clear hm;clear H hE hx hc aA aR aj ak R zE aH hS ar hl ih P X O U aX aZ aW aY T zO aO aq E aC am ao ae af ap au F an al Q zB aD aE;go_in;go_wp2_with fail;rw[A.o];clear d0 d1 d2 d3 d4 d5 d6 c5;obtain⟨gx,aB⟩:∃gx,w.heap.size=gx:=⟨_,rfl⟩
 rw[aB]at x0 x3 t;simp only[aB];refine(hC.o _ bx.o).mono ?_;rintro r y ⟨rfl,b2⟩;have Z:Below wx.heap.size wx y:=b2;have x0:=(t.o.step Z).c 0 _ rfl;clear b2;have bw:Below w.heap.size w y:=bx.o.trans (Z.mono bx.o.size);have x4:=(t.o.step Z).c 4 _ rfl;have x5:=(t.o.step Z).c 5 _ rfl;have x6:=(t.o.step Z).c 6 _ rfl;go_wp2_with fail;refine(M.o _).mono ?_;rintro r w3 ⟨rfl,aF⟩;have aP:=aF.symm;clear aF;subst aP;go_wp2_with fail;refine(aM.o _ bw).mono ?_;rintro r w5 ⟨rfl,q⟩;have z:Below y.heap.size y w5:=q;clear q;have aI:=((t.o.step Z).step z).c 0 _ rfl;have aJ:=((t.o.step Z).step z).c 5 _ rfl;have aK:=((t.o.step Z).step z).c 6 _ rfl;clear x4 x5 x6;go_wp2_with fail;refine(L.o _).mono ?_;rintro r w6 ⟨rfl,aG⟩;have aQ:=aG.symm;clear aG;subst aQ;have aL:Below w.heap.size w w5:=bw.trans (z.mono bw.size);go_wp2_with fail;refine(aN.o _ aL).mono ?_;rintro r w8 ⟨rfl,q⟩;have aw:Below y.heap.size y w8:=z.trans (q.mono z.size);clear q;clear aI aJ aK;go_wp2_with fail;refine(I.o _).mono ?_;rintro r aS ⟨rfl,q⟩;have aa:Below y.heap.size y aS:=aw.trans (q.mono aw.size);clear q;go_wp2_with fail;refine(K.o _).mono ?_;rintro r aT ⟨rfl,q⟩;have ab:Below y.heap.size y aT:=aa.trans (q.mono aa.size);clear q;go_wp2_with fail;refine(G.o _).mono ?_;rintro r aU ⟨rfl,q⟩;have ad:Below y.heap.size y aU:=ab.trans (q.mono ab.size);clear q;go_wp2_with fail;refine(N.o _).mono ?_;rintro r br ⟨rfl,u⟩;have Y:=u.symm;clear u;subst Y;go_wp2_with fail;refine(J.o _).mono ?_;rintro r aV ⟨rfl,q⟩;have av:Below y.heap.size y aV:=ad.trans (q.mono ad.size);clear q;go_wp2;go_ret;exact⟨rfl,bw.trans (av.mono bw.size)⟩
theorem Zrb(a:BA ex)(b:BY ex sm){n:Nat}(pl:Nat)(c:n<sm.length):1<=(one ex sm n pl).length:=by
 rw[Jf a b (Qn c)];split
 ·simp only[Qe,Qt];omega
 ·split
  ·simp only[Qe,Qt];omega
  ·split
   ·simp only[Qe,Qt];omega
   ·split<;>simp only[Qe,Qt]<;>omega
theorem Nk(a:BA ex)(b:BY ex sm):∀(l:List Nat) (pl:Nat),(∀n∈l,n<sm.length)->l.length<=(Bn ex sm l pl).length
 | [],pl,h=>Q8 _
 | n::l,pl,h=>by have e:=Zrb a b pl (h n (by simp));have c:=Nk a b l (pl+(one ex sm n pl).length/2) (λm d=>h m (by simp[d]));unfold Bn at c ⊢;simp only[Cm,Qe,Qt];omega
theorem Tf(rb sb B:Nat)(s j:ZB)(tp:Value)(p:Rs)(S:Nat->Value)(sv:List (Value×Value))(i:BA p.ex)(f:BY p.ex p.sm):∀k,HV rb sb B s j tp p S sv k
 | 0=>λn pl w z=>by omega
 | k+1=>λn pl w z H A q=>by
  have C:=Tf rb sb B s j tp p S sv i f k;have d:Kp (HV rb sb B s j tp p S sv n):=⟨λm pl w t=>C m pl w (by omega)⟩
  have o:p.sm[n]?=some p.sm[n]:=Qn A;obtain⟨D,u,v⟩:=f n _ o;have b:=Jf (pl:=pl) i f o;by_cases g:p.sm[n].k=61
  ·exact Zsl rb sb B s j tp p S sv i f n pl d w H _ o q g
  ·by_cases h:p.sm[n].k=62
   ·exact Zsm rb sb B s j tp p S sv i f n pl d w H _ o q h
   ·rw[if_neg g,if_neg h]at b;have x:=Nk i f p.sm[n].bo (pl+(AQ p.ex p.sm[n].e).length/2+1) (λm t=>by have:=u m t;omega);by_cases c:p.sm[n].k=64
    ·rw[if_pos c]at b;have a:=congrArg List.length b;simp only[Qe,Qt,Qy]at a;exact Zsn rb sb B s j tp p S sv i f n pl d w H _ o (by omega) q c
    ·rw[if_neg c]at b;cases r:p.sm[n].two with
     | false=>rw[if_pos r]at b;have a:=congrArg List.length b;simp only[Qe,Qt,Qy]at a;exact Zso rb sb B s j tp p S sv i f n pl d w H _ o (by omega) q g h c r
     | true=>rw[if_neg (by rw[r];simp)]at b;have a:=congrArg List.length b;simp only[Qe,Qt,Qy]at a;have y:=Nk i f p.sm[n].el (pl+(AQ p.ex p.sm[n].e).length/2+1+(Bn p.ex p.sm p.sm[n].bo (pl+(AQ p.ex p.sm[n].e).length/2+1)).length/2+1) (λm t=>by have:=v m t;omega);exact Zsp rb sb B s j tp p S sv i f n pl d w H _ o (by omega) (by omega) q g h c r
end Go.Proofs.YtcnbifdlkalimabGreat
