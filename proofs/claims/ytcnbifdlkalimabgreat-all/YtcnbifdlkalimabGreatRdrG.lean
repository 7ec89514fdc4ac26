/- Lemmas; their conditions stand in each. -/
import Derived.Test.YtcnbifdlkalimabGreatRdrC
namespace Go.Proofs.YtcnbifdlkalimabGreat
open Go.RowKit Go.Proofs.Tryz
set_option linter.all false
set_option maxRecDepth 100000
variable{B:Nat}{S:Nat->Value}{w:World}
theorem OS{α:Type}(f:α->List Value)(z:Nat)(b:∀x,(f x).length=z):∀(l:List α) (e i:Nat) (x:α),l[e]?=some x->i<z->(l.flatMap f)[e*z+i]?=(f x)[i]?
 | [],e,i,x,h,c=>by simp at h
 | y::l,0,i,x,h,c=>by
  have a:y=x:=by simpa using h
  subst a;rw[Uu,QD (by rw[b];omega)];simp
 | y::l,e+1,i,x,h,c=>by
  have d:l[e]?=some x:=by simpa using h
  have g:=OS f z b l e i x d c;have a:(e+1)*z=e*z+z:=by rw[Nat.add_mul,Nat.one_mul]
  rw[Uu,QF (by rw[b,a];omega),b,a,show e*z+z+i-z=e*z+i from by omega];exact g
theorem YB.node{rb sb:Nat}{s:ZB}{p:Rs}{m:ZB}{tp:Value}{sv:List (Value×Value)}(H:YB w rb sb B s p m tp S sv){e:Nat}{x:Ex}(j:p.ex[e]?=some x) :
  ∃g c,S 0=.slice (some ⟨g,0,none⟩) p.ex.length c∧g<w.heap.size∧∀i v,(Do x)[i]?=some v->w.cell? ⟨g,e*4+i,none⟩=some v:=by
 have a:w.ownsRow B 121 4 (S 0) p.ex.length (p.ex.flatMap Do):=H.o 0 (by omega);have n:e<p.ex.length:=(Ql.1 j).1;obtain⟨g,c,d⟩:∃g c,S 0=.slice (some ⟨g,0,none⟩) p.ex.length c:=by
  rcases a.2 with h|⟨g,b,k,h,_⟩
  ·omega
  ·exact⟨g,b,h⟩
 rw[d]at a;refine⟨g,c,d,(a.lt g rfl).2,λi v f=>?_⟩;have l:i<4:=by have:=(List.getElem?_eq_some_iff.1 f).1;simpa [Do] using this
 rw[a.cellAt (e*4+i) (by omega),OS Do 4 (λ_=>rfl) p.ex e i x j l];exact f
theorem YB.stat{rb sb:Nat}{s:ZB}{p:Rs}{A:ZB}{tp:Value}{sv:List (Value×Value)}(H:YB w rb sb B s p A tp S sv){n:Nat}{x:Sm}(d:p.sm[n]?=some x) :
  ∃g c y,S 1=.slice (some ⟨g,0,none⟩) p.sm.length c∧g<w.heap.size∧sv[n]?=some y∧BD w B S y.1 x.bo∧BD w B S y.2 x.el∧∀i v,(BK (x,y))[i]?=some v->w.cell? ⟨g,n*7+i,none⟩=some v:=by
 have a:w.ownsRow B 123 7 (S 1) p.sm.length ((List.zip p.sm sv).flatMap BK):=H.o 1 (by omega);have r:n<p.sm.length:=(Ql.1 d).1;obtain⟨g,c,f⟩:∃g c,S 1=.slice (some ⟨g,0,none⟩) p.sm.length c:=by
  rcases a.2 with h|⟨g,b,l,h,_⟩
  ·omega
  ·exact⟨g,b,h⟩
 rw[f]at a;have u:n<sv.length:=by rw[H.k];exact r
 have e:sv[n]?=some sv[n]:=Qn u;have z:(List.zip p.sm sv)[n]?=some (x,sv[n]):=by rw[List.getElem?_zip_eq_some];exact⟨d,e⟩
 obtain⟨m,q⟩:=H.i n x _ d e;refine⟨g,c,sv[n],f,(a.lt g rfl).2,e,m,q,λi v j=>?_⟩;have t:i<7:=by have:=(List.getElem?_eq_some_iff.1 j).1;simpa [BK] using this
 rw[a.cellAt (n*7+i) (by omega),OS BK 7 (λ_=>rfl) _ n i _ z t];exact j
theorem BD.at{v:Value}{l:List Nat}(h:BD w B S v l){i x:Nat}(e:l[i]?=some x):∃g c,v=.slice (some ⟨g,0,none⟩) l.length c∧g<w.heap.size∧w.cell? ⟨g,i,none⟩=some (.int .i64 x):=by
 have j:i<l.length:=(Ql.1 e).1;have a:=h.1;obtain⟨g,c,d⟩:∃g c,v=.slice (some ⟨g,0,none⟩) l.length c:=by
  rcases a.2 with h|⟨g,b,f,h,_⟩
  ·omega
  ·exact⟨g,b,h⟩
 rw[d]at a;refine⟨g,c,d,(a.lt g rfl).2,?_⟩;rw[a.cellAt i (by omega)];unfold IE;rw[Ui,e];rfl
theorem UY{ex:List Ex}(a:BA ex){e:Nat}{x:Ex}(b:ex[e]?=some x):(x.op=0∨x.op=1∨x.op=10->AQ ex e=[x.op%256,x.v%256])∧(¬(x.op=0∨x.op=1∨x.op=10)->x.l<e∧x.r<e∧AQ ex e=AQ ex x.l++AQ ex x.r++[x.op%256,0]):=by
 have g:e<ex.length:=(Ql.1 b).1;have c:AQ ex e=if x.op=0∨x.op=1∨x.op=10 then [x.op%256,x.v%256] else Fc ex e x.l++Fc ex e x.r++[x.op%256,0]:=by unfold AQ;simp only[Fc,b]
 constructor
 ·intro h;rw[c,if_pos h]
 ·intro h;obtain⟨d,f⟩:=(a e x b).resolve_left h;refine⟨d,f,?_⟩;rw[c,if_neg h,Tj a (by omega) d,Tj a (by omega) f]
theorem Er(w:World)(b c d f:Value)(t:TypeId):AF (w.alloc (.cells #[b,c,d,f] t)) w.heap.size [b,c,d,f]:=by
 refine⟨by simp,?_,?_⟩
 ·intro i v a;have g:i<4:=by have:=(List.getElem?_eq_some_iff.1 a).1;simpa using this
  have e:(w.alloc (.cells #[b,c,d,f] t)).cell? ⟨w.heap.size,i,none⟩=([b,c,d,f]:List Value)[i]?:=by
   match i,g with
   | 0,_=>simp[go_sem]
   | 1,_=>simp[go_sem]
   | 2,_=>simp[go_sem]
   | 3,_=>simp[go_sem]
  rw[e];exact a
 ·intro i v a;have g:i<4:=by have:=(List.getElem?_eq_some_iff.1 a).1;simpa using this
  match i,g with
  | 0,_=>simp[go_sem]
  | 1,_=>simp[go_sem]
  | 2,_=>simp[go_sem]
  | 3,_=>simp[go_sem]
def PX(rb sb B:Nat)(s tb:ZB)(tp:Value)(p:Rs)(S:Nat->Value)(sv:List (Value×Value))(k:Nat):Prop:=∀(e:Nat) (w:World),e<k->YB w rb sb B s p tb tp S sv->e<p.ex.length->(AQ p.ex e).length<=20000->
 Calls prog 172 #[.pointer (some ⟨sb,0,none⟩),.int .i64 e] w λen w'=>en=.returned (.string (bs (AQ p.ex e)))∧Below w.heap.size w w'
set_option maxHeartbeats 12800000
theorem YN(rb sb B:Nat)(s tb:ZB)(tp:Value)(p:Rs)(S:Nat->Value)(sv:List (Value×Value))(Y:BA p.ex)(e:Nat)(w:World)(H:YB w rb sb B s p tb tp S sv)(x:Ex)(K:p.ex[e]?=some x)(J:x.op=0∨x.op=1∨x.op=10) :
  Calls prog 172 #[.pointer (some ⟨sb,0,none⟩),.int .i64 e] w λI n=>I=.returned (.string (bs (AQ p.ex e)))∧Below w.heap.size w n:=by
 rw[(UY Y K).1 J];obtain⟨g,c,Z,hg,E⟩:=H.node K;have he:e<p.ex.length:=(Ql.1 K).1;have N:w.cell? ⟨sb,4,none⟩=some (.slice (some ⟨g,0,none⟩) p.ex.length c):=by rw[<-Z];exact H.c 0 (by omega)
 have G:w.cell? ⟨g,e*4,none⟩=some (.int .i64 x.op):=E 0 _ rfl;have O:=E 1 _ rfl;have P:=E 2 _ rfl;have Q:=E 3 _ rfl;have d:=λW=>Zk x.op W;have j:=λW=>Zk x.v W
 obtain⟨L,q⟩:∃V,bs [x.op%256]=V:=⟨_,rfl⟩
 obtain⟨M,t⟩:∃V,bs [x.v%256]=V:=⟨_,rfl⟩
 have z1:L.size=1:=by rw[<-q,Zd];rfl
 have z2:M.size=1:=by rw[<-t,Zd];rfl
 have z:bs [x.op%256,x.v%256]=L++M:=by rw[<-q,<-t,<-Zg];rfl
 rw[z];rw[q]at d;rw[t]at j;obtain⟨C,F⟩:∃C,x.op=C:=⟨_,rfl⟩
 rw[F]at G J d;generalize x.v=v at *;generalize x.l=l at *;generalize x.r=r at *;generalize T:p.ex.length=m at *;have aa:(e:Int)<(m:Int):=by omega
 have ab:=H.lt;have q1:¬9223372036854775807<L.size+M.size:=by omega
 obtain⟨a,f⟩:∃a,w.alloc (.cells #[.int .i64 C,.int .i64 v,.int .i64 (l:Nat),.int .i64 (r:Nat)] 121)=a:=⟨_,rfl⟩
 have h:=Er w (.int .i64 C) (.int .i64 v) (.int .i64 (l:Nat)) (.int .i64 (r:Nat)) 121;rw[f]at h;have y:Below w.heap.size w a:=by rw[<-f];exact(Qh _ _).alloc (Qb _) _
 have U:=h.c 0 _ rfl;have X:=h.c 1 _ rfl;replace h:=Z_ h;replace y:=Z_ y;replace f:=Z_ f;replace d:=Z_ d;replace j:=Z_ j;clear H Y K E Z q t z F T z1 z2;have R:C=0∨C=1∨C=10:=J;clear J;rcases R with rfl|rfl|rfl
 ·go_in;go_wp2_with fail;rw[f.o];clear G O P Q N;obtain⟨i,b⟩:∃i,w.heap.size=i:=⟨_,rfl⟩
  rw[b]at U X h;simp only[b];go_region_held3 (λn=>n.cell? ⟨i,0,none⟩=some (.int .i64 0)∧n.cell? ⟨i,1,none⟩=some (.int .i64 v)) (go_keep) ((go_at_call 51;(first|refine(d.o _).mono ?_|refine(j.o _).mono ?_);rintro I A ⟨rfl,k⟩;have u:Below a.heap.size a A:=(by first|exact((Qh _ _).drew).trans k|exact Q9 (by assumption) (k.mono (Below.size (w:=a) (by assumption))));have o0:=(h.o.step u).c 0 _ rfl;have o1:=(h.o.step u).c 1 _ rfl;clear k));all_goals
   have D:Below a.heap.size a A:=by assumption
   go_wp2;go_ret;exact⟨rfl,y.o.trans (D.mono y.o.size)⟩
 ·go_in;go_wp2_with fail;rw[f.o];clear G O P Q N;obtain⟨i,b⟩:∃i,w.heap.size=i:=⟨_,rfl⟩
  rw[b]at U X h;simp only[b];go_region_held3 (λn=>n.cell? ⟨i,0,none⟩=some (.int .i64 1)∧n.cell? ⟨i,1,none⟩=some (.int .i64 v)) (go_keep) ((go_at_call 51;(first|refine(d.o _).mono ?_|refine(j.o _).mono ?_);rintro I A ⟨rfl,k⟩;have u:Below a.heap.size a A:=(by first|exact((Qh _ _).drew).trans k|exact Q9 (by assumption) (k.mono (Below.size (w:=a) (by assumption))));have o0:=(h.o.step u).c 0 _ rfl;have o1:=(h.o.step u).c 1 _ rfl;clear k));all_goals
   have D:Below a.heap.size a A:=by assumption
   go_wp2;go_ret;exact⟨rfl,y.o.trans (D.mono y.o.size)⟩
 ·go_in;go_wp2_with fail;rw[f.o];clear G O P Q N;obtain⟨i,b⟩:∃i,w.heap.size=i:=⟨_,rfl⟩
  rw[b]at U X h;simp only[b];go_region_held3 (λn=>n.cell? ⟨i,0,none⟩=some (.int .i64 10)∧n.cell? ⟨i,1,none⟩=some (.int .i64 v)) (go_keep) ((go_at_call 51;(first|refine(d.o _).mono ?_|refine(j.o _).mono ?_);rintro I A ⟨rfl,k⟩;have u:Below a.heap.size a A:=(by first|exact((Qh _ _).drew).trans k|exact Q9 (by assumption) (k.mono (Below.size (w:=a) (by assumption))));have o0:=(h.o.step u).c 0 _ rfl;have o1:=(h.o.step u).c 1 _ rfl;clear k));all_goals
   have D:Below a.heap.size a A:=by assumption
   go_wp2;go_ret;exact⟨rfl,y.o.trans (D.mono y.o.size)⟩
theorem YO(rb sb B:Nat)(s tb:ZB)(tp:Value)(p:Rs)(S:Nat->Value)(sv:List (Value×Value))(hE:BA p.ex)(e:Nat)(Z:Kp (PX rb sb B s tb tp p S sv e))(w:World)(H:YB w rb sb B s p tb tp S sv)(x:Ex)(P:p.ex[e]?=some x)(L:¬(x.op=0∨x.op=1∨x.op=10))(X:(AQ p.ex e).length<=20000) :
  Calls prog 172 #[.pointer (some ⟨sb,0,none⟩),.int .i64 e] w λj z=>j=.returned (.string (bs (AQ p.ex e)))∧Below w.heap.size w z:=by
 obtain⟨M,N,J⟩:=(UY hE P).2 L;rw[J]at X ⊢;obtain⟨g,c,hS,hg,I⟩:=H.node P;have he:e<p.ex.length:=(Ql.1 P).1;have c4:w.cell? ⟨sb,4,none⟩=some (.slice (some ⟨g,0,none⟩) p.ex.length c):=by rw[<-hS];exact H.c 0 (by omega)
 have d0:w.cell? ⟨g,e*4,none⟩=some (.int .i64 x.op):=I 0 _ rfl;have d1:=I 1 _ rfl;have d2:=I 2 _ rfl;have d3:=I 3 _ rfl;have k:=λW=>Zk x.op W;have n:=λW=>Zk 0 W
 rw[Qe,Qe]at X;obtain⟨E,u⟩:∃V,bs (AQ p.ex x.l)=V:=⟨_,rfl⟩
 obtain⟨F,y⟩:∃V,bs (AQ p.ex x.r)=V:=⟨_,rfl⟩
 obtain⟨O,q⟩:∃V,bs [x.op%256]=V:=⟨_,rfl⟩
 obtain⟨Q,t⟩:∃V,bs [(0:Int)%256]=V:=⟨_,rfl⟩
 have z1:O.size=1:=by rw[<-q,Zd];rfl
 have z2:Q.size=1:=by rw[<-t,Zd];rfl
 have zL:E.size<=20000:=by rw[<-u,Zd];omega
 have zR:F.size<=20000:=by rw[<-y,Zd];omega
 have C:bs (AQ p.ex x.l++AQ p.ex x.r++[x.op%256,0])=E++F++O++Q:=by rw[Zg,Zg,u,y,show ([x.op%256,0]:List Int)=[x.op%256]++[0%256] from rfl,Zg,q,t,<-QR]
 rw[C];rw[q]at k;rw[t]at n;have ab:=H.lt;obtain⟨a,i⟩:∃a,w.alloc (.cells #[.int .i64 x.op,.int .i64 x.v,.int .i64 (x.l:Nat),.int .i64 (x.r:Nat)] 121)=a:=⟨_,rfl⟩
 have b:=Er w (.int .i64 x.op) (.int .i64 x.v) (.int .i64 (x.l:Nat)) (.int .i64 (x.r:Nat)) 121;rw[i]at b;have A:Below w.heap.size w a:=by rw[<-i];exact(Qh _ _).alloc (Qb _) _
 have R:Kp (∀W,Below a.heap.size a W->Calls prog 172 #[.pointer (some ⟨sb,0,none⟩),.int .i64 (x.l:Nat)] W λj z=>j=.returned (.string E)∧Below W.heap.size W z):=⟨λW U=>by
  rw[<-u];exact Z.o x.l W M (H.step (A.trans (U.mono A.size))) (by omega) (by omega)⟩
 have T:Kp (∀W,Below a.heap.size a W->Calls prog 172 #[.pointer (some ⟨sb,0,none⟩),.int .i64 (x.r:Nat)] W λj z=>j=.returned (.string F)∧Below W.heap.size W z):=⟨λW U=>by
  rw[<-y];exact Z.o x.r W N (H.step (A.trans (U.mono A.size))) (by omega) (by omega)⟩
 have x0:=b.c 0 _ rfl;have x2:=b.c 2 _ rfl;have x3:=b.c 3 _ rfl;have k0:(x.op==0)=false:=Qf.2 λh=>L (.inl h);have k1:(x.op==1)=false:=Qf.2 λh=>L (.inr (.inl h))
 have k2:(x.op==10)=false:=Qf.2 λh=>L (.inr (.inr h));generalize x.op=op at *;generalize x.v=v at *;generalize x.l=l at *;generalize x.r=r at *;generalize Y:p.ex.length=m at *;have aa:(e:Int)<(m:Int):=by omega
 have q1:¬9223372036854775807<E.size+F.size:=by omega
 have q4:¬9223372036854775807<E.size+F.size+O.size:=by omega
 have q7:¬9223372036854775807<E.size+F.size+O.size+Q.size:=by omega
 replace b:=Z_ b;replace A:=Z_ A;replace i:=Z_ i;replace k:=Z_ k;replace n:=Z_ n;clear H hE P I hS q t C Y z1 z2 zL zR L X J M N u y Z;go_in;go_wp2_with fail;rw[i.o];clear d0 d1 d2 d3 c4;obtain⟨G,K⟩:∃G,w.heap.size=G:=⟨_,rfl⟩
 rw[K]at x0 x2 x3 b;simp only[K];go_region_held3 (λz=>z.cell? ⟨G,0,none⟩=some (.int .i64 op)∧z.cell? ⟨G,2,none⟩=some (.int .i64 (l:Nat))∧z.cell? ⟨G,3,none⟩=some (.int .i64 (r:Nat))) (go_keep) (first
  | (go_at_call_of 172 l;refine(R.o _ (by first|exact(Qh _ _).drew|assumption)).mono ?_;rintro j D ⟨rfl,d⟩;have f:Below a.heap.size a D:=(by first|exact((Qh _ _).drew).trans d|exact Q9 (by assumption) (d.mono (Below.size (w:=a) (by assumption))));have o0:=(b.o.step f).c 0 _ rfl;have o2:=(b.o.step f).c 2 _ rfl;have o3:=(b.o.step f).c 3 _ rfl;clear d)
  | (go_at_call_of 172 r;refine(T.o _ (by first|exact(Qh _ _).drew|assumption)).mono ?_;rintro j D ⟨rfl,d⟩;have f:Below a.heap.size a D:=(by first|exact((Qh _ _).drew).trans d|exact Q9 (by assumption) (d.mono (Below.size (w:=a) (by assumption))));have o0:=(b.o.step f).c 0 _ rfl;have o2:=(b.o.step f).c 2 _ rfl;have o3:=(b.o.step f).c 3 _ rfl;clear d)
  | (go_at_call_of 51 op;refine(k.o _).mono ?_;rintro j D ⟨rfl,d⟩;have f:Below a.heap.size a D:=(by first|exact((Qh _ _).drew).trans d|exact Q9 (by assumption) (d.mono (Below.size (w:=a) (by assumption))));have o0:=(b.o.step f).c 0 _ rfl;have o2:=(b.o.step f).c 2 _ rfl;have o3:=(b.o.step f).c 3 _ rfl;clear d)
  | (go_at_call 51;refine(n.o _).mono ?_;rintro j D ⟨rfl,d⟩;have f:Below a.heap.size a D:=(by first|exact((Qh _ _).drew).trans d|exact Q9 (by assumption) (d.mono (Below.size (w:=a) (by assumption))));have o0:=(b.o.step f).c 0 _ rfl;have o2:=(b.o.step f).c 2 _ rfl;have o3:=(b.o.step f).c 3 _ rfl;clear d))
 all_goals
  have b9:Below a.heap.size a D:=by assumption
  go_wp2;go_ret;exact⟨rfl,A.o.trans (b9.mono A.o.size)⟩
theorem JS(rb sb B:Nat)(s a:ZB)(tp:Value)(p:Rs)(S:Nat->Value)(sv:List (Value×Value))(b:BA p.ex):∀k,PX rb sb B s a tp p S sv k
 | 0=>λe w h=>by omega
 | k+1=>λe w h H g i=>by
  have j:=JS rb sb B s a tp p S sv b k;have d:p.ex[e]?=some p.ex[e]:=Qn g;by_cases c:p.ex[e].op=0∨p.ex[e].op=1∨p.ex[e].op=10
  ·exact YN rb sb B s a tp p S sv b e w H _ d c
  ·exact YO rb sb B s a tp p S sv b e ⟨λf w l=>j f w (by omega)⟩ w H _ d c i
end Go.Proofs.YtcnbifdlkalimabGreat
