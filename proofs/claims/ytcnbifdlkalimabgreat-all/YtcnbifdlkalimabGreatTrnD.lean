/- Lemmas; their conditions stand in each. -/
import Derived.Test.YtcnbifdlkalimabGreatTrnC
import Derived.Test.YtcnbifdlkalimabGreatTrn15
import Derived.Deep.AppendSrc
namespace Go.Proofs.YtcnbifdlkalimabGreat
open Go.RowKit Go.Proofs.Tryz
set_option linter.all false
set_option maxRecDepth 100000
variable{b:Nat}{S:Nat->Value}{q:Tq}{w:World}{s:ZB}
theorem Zru{g e:World}{c:Value}{t:Int}(H:Zw w b s q S)(k:Below w.heap.size w g)(m:g.grownBy e (S 0).ownBlock)(d:e.ownsRow (b+1) 5 1 c (q.ls.length+1) (q.ls.map (Value.int .u8)++[.int .u8 t]))(f:c.ownBlock=(S 0).ownBlock∨c.ownBlock=some g.heap.size) :
  Zw (e.setCell ⟨b,41,none⟩ c) b s {q with ls:=q.ls++[t]} (λj=>if j=0 then c else S j)∧Zq b b S (λj=>if j=0 then c else S j) w (e.setCell ⟨b,41,none⟩ c):=
 Zw.told (l:=0) H (by omega) k m (by
  have h:ET {q with ls:=q.ls++[t]} 0=q.ls.length+1:=by show (q.ls++[t]).length=_;rw[Qe];rfl
  have i:EU {q with ls:=q.ls++[t]} 0=q.ls.map (Value.int .u8)++[.int .u8 t]:=by show (q.ls++[t]).map _=_;rw[QK];rfl
  rw[h,i];exact d) f rfl rfl rfl rfl rfl rfl (λj n a=>by unfold ET;rw[if_neg a,if_neg a]) (λj n a=>by unfold EU;rw[if_neg a,if_neg a])
theorem Zrv{h e:World}{c:Value}{t:Int}(H:Zw w b s q S)(m:Below w.heap.size w h)(n:h.grownBy e (S 1).ownBlock)(d:e.ownsRow (b+1) 5 1 c (q.vs.length+1) (q.vs.map (Value.int .u8)++[.int .u8 t]))(f:c.ownBlock=(S 1).ownBlock∨c.ownBlock=some h.heap.size) :
  Zw (e.setCell ⟨b,42,none⟩ c) b s {q with vs:=q.vs++[t]} (λj=>if j=1 then c else S j)∧Zq b b S (λj=>if j=1 then c else S j) w (e.setCell ⟨b,42,none⟩ c):=
 Zw.told (l:=1) H (by omega) m n (by
  have i:ET {q with vs:=q.vs++[t]} 1=q.vs.length+1:=by show (q.vs++[t]).length=_;rw[Qe];rfl
  have k:EU {q with vs:=q.vs++[t]} 1=q.vs.map (Value.int .u8)++[.int .u8 t]:=by show (q.vs++[t]).map _=_;rw[QK];rfl
  rw[i,k];exact d) f rfl rfl rfl rfl rfl rfl (λj g a=>by
  match j,g with
  | 0,_=>rfl
  | 1,_=>exact absurd rfl a
  | 2,_=>rfl
  | 3,_=>rfl) (λj g a=>by
  match j,g with
  | 0,_=>rfl
  | 1,_=>exact absurd rfl a
  | 2,_=>rfl
  | 3,_=>rfl)
set_option maxHeartbeats 6400000
theorem Wt(b:Nat)(s:ZB)(hs:s.size<=300)(q:Tq)(S:Nat->Value)(w:World)(H:Zw w b s q S)(G:Gd s q)(hp:AA s q<=6000)(hl:q.ls.length<=900) :
  Calls prog 93 #[.pointer (some ⟨b,0,none⟩)] w (Dz b s S w (BI s q)):=by
 have hP:=Fn b s q.r w H.rdAt (G.ok hs);have Z:Kp (∀a r1,Zi w a b r1->Zw a b s {q with r:=r1} S):=⟨λa r1 T=>H.rd T⟩
 have Ga:Gd s {q with r:=Aa s q.r}:=G.r (Ze G.le);have pa:AA s {q with r:=Aa s q.r}<=6000:=CF (Zh _ _) hp;have hF:Kp (∀a r1,Zi w a b r1->Calls prog 162 #[.pointer (some ⟨b,0,none⟩),.int .u8 (Ae s q.r)] a λe N=>e=.returned (.tuple #[.int .i64 (DW (Ae s q.r) q.ls:Nat),.bool (FD (Ae s q.r) q.ls)])∧N=a):=⟨λa r1 T=>Ti b s {q with r:=r1} S (Ae s q.r) a (H.rd T) ⟨(G.sml (by omega)).cd,G.h0,G.h1,(G.sml (by omega)).ss,G.ll,G.vl⟩⟩
 have A:=λa=>Rf (Ae s q.r) a;replace hP:=Z_ hP;cases F:Ct (Ae s q.r) with
 | false=>
  have R:BI s q={q with r:=Bi (Aa s q.r) 11}:=by unfold BI;rw[if_pos F]
  rw[R];rw[F]at A;have hR:Kp (∀a,Zi w a b (Aa s q.r)->Calls prog 159 #[.pointer (some ⟨b,0,none⟩),.int .i64 11] a λe N=>e=.returned (.tuple #[])∧Zi a N b (Bi (Aa s q.r) 11)):=⟨λa T=>H9 b s (Aa s q.r) 11 a (Z.o a _ T).rdAt⟩
  clear R H G hF hp hl pa Ga F;generalize Ae s q.r=t at *;replace A:=Z_ A;go_in;go_wp2_with fail;refine hP.o.mono ?_;rintro e a ⟨rfl,v⟩;replace v:=Z_ v;go_wp2_with fail;refine(A.o _).mono ?_;rintro e w2 ⟨rfl,M⟩;subst M;go_wp2_with fail;refine(hR.o _ v.o).mono ?_;rintro e w3 ⟨rfl,P⟩;have Q:Kp _:=⟨v.o.trans P⟩
  clear P;go_wp2_with fail;first|go_end0|refine Qi (Qp rfl _ _ _) rfl ?_
  exact⟨rfl,S,Z.o _ _ Q.o,Zq.rd Q.o⟩
 | true=>
  rw[F]at A;by_cases hf:fnd (Ae s q.r) q.ls<q.ls.length
  ·have R:BI s q={q with r:=Bi (Aa s q.r) 12}:=by unfold BI;rw[if_neg (by rw[F];simp),if_pos hf]
   rw[R];rw[(Is rfl hf).1,(Is rfl hf).2]at hF;have hR:Kp (∀a,Zi w a b (Aa s q.r)->Calls prog 159 #[.pointer (some ⟨b,0,none⟩),.int .i64 12] a λe N=>e=.returned (.tuple #[])∧Zi a N b (Bi (Aa s q.r) 12)):=⟨λa T=>H9 b s (Aa s q.r) 12 a (Z.o a _ T).rdAt⟩
   clear R H G hp hl pa Ga F hf;generalize fnd (Ae s q.r) q.ls=i at *;generalize Ae s q.r=t at *;replace A:=Z_ A;go_in;go_wp2_with fail;refine hP.o.mono ?_;rintro e a ⟨rfl,v⟩;replace v:=Z_ v;go_wp2_with fail;refine(A.o _).mono ?_;rintro e w2 ⟨rfl,M⟩;subst M;go_wp2_with fail;refine(hF.o _ _ v.o).mono ?_;rintro e w2 ⟨rfl,M⟩;subst M;go_wp2_with fail;refine(hR.o _ v.o).mono ?_;rintro e w3 ⟨rfl,P⟩;have Q:Kp _:=⟨v.o.trans P⟩
   clear P;go_wp2_with fail;first|go_end0|refine Qi (Qp rfl _ _ _) rfl ?_
   exact⟨rfl,S,Z.o _ _ Q.o,Zq.rd Q.o⟩
  ·have ht:97<=Ae s q.r∧Ae s q.r<=104:=by unfold Ct at F;exact QB F
   obtain⟨r2,ad⟩:∃r2,An s (nx (Aa s q.r)) 0 (q.n-1)=r2:=⟨_,rfl⟩
   obtain⟨E,K⟩:∃E,AW s (nx (Aa s q.r)) 0 (q.n-1)=E:=⟨_,rfl⟩
   have R:BI s q={q with r:=r2,ls:=q.ls++[Ae s q.r],vs:=q.vs++[E]}:=by unfold BI;rw[if_neg (by rw[F];simp),if_neg hf,ad,K]
   rw[R];have ab:fnd (Ae s q.r) q.ls=q.ls.length:=by have:=Kk (Ae s q.r) q.ls;omega
   rw[(FR ab).1,(FR ab).2]at hF;have hS:Kp (∀a,Zi w a b (Aa s q.r)->Calls prog 160 #[.pointer (some ⟨b,0,none⟩)] a λe N=>e=.returned (.tuple #[])∧Zi a N b (nx (Aa s q.r))):=⟨λa T=>Ih b s (Aa s q.r) a (Z.o a _ T).rdAt (Ga.ok hs)⟩
   have hV:Kp (∀a,Zi w a b (nx (Aa s q.r))->Calls prog 90 #[.pointer (some ⟨b,0,none⟩)] a λe N=>e=.returned (.int .i64 E)∧Zi a N b r2):=⟨λa T=>by
    rw[<-K,<-ad];exact Mt b s {q with r:=nx (Aa s q.r)} S a (Z.o a _ T) ⟨hs,Dk (by omega)⟩ ⟨G.n0,G.n6⟩⟩
   have aj:=No (s:=s) (r:=nx (Aa s q.r)) G.n6;rw[K]at aj;obtain⟨l0,l6⟩:=aj;have ax:IntKind.u8.wrap E=E:=by rw[Dg];omega
   have aw:q.vs.length<=900:=by have:=G.vl;omega
   obtain⟨i0,ai,am,an,ao⟩:=AX Na;have av:=H.lt;clear R G hp pa Ga F hf ab ad K H ht;generalize Ae s q.r=t at *;replace A:=Z_ A;go_in;go_wp2_with fail;refine hP.o.mono ?_;rintro e a ⟨rfl,v⟩;replace v:=Z_ v;go_wp2_with fail;refine(A.o _).mono ?_;rintro e w2 ⟨rfl,M⟩;subst M;go_wp2_with fail;refine(hF.o _ _ v.o).mono ?_;rintro e w2 ⟨rfl,M⟩;subst M;go_wp2_with fail;refine(hS.o _ v.o).mono ?_;rintro e w3 ⟨rfl,P⟩;have Q:Kp _:=⟨v.o.trans P⟩
   clear P;go_wp2_with fail;refine(hV.o _ Q.o).mono ?_;rintro e V ⟨rfl,T5⟩;have T6:Kp _:=⟨Q.o.trans T5⟩
   have O:=Z.o _ _ T6.o;have ae:V.cell? ⟨b,41,none⟩=some (S 0):=O.c 0 (by omega);have ag:=O.f 41 (by omega);have ak:=O.lt;have l:V.ownsRow (b+1) 5 1 (S 0) q.ls.length (q.ls.map (Value.int .u8)):=O.o 0 (by omega);have C:some b≠(S 0).ownBlock:=λe=>by have:=(l.lt _ e.symm).1;omega
   replace l:=Z_ l;replace C:=Z_ C;replace O:=Z_ O;clear T5;go_wp2_with (at_builtin;refine wpList_append_own_at _ rfl _ _ 56 rfl (b+1) 5 i0 (.int .u8 0) 1 1 Tryz.underlying56 ai am an ao rfl (by decide) _ _ _ rfl (l.o.alloc _) ⟨V.heap.size,0,none⟩ 1 1 [.int .u8 t] rfl rfl ?a1 ?a2 ?a3 ?a4 ?a5 ?_)
   case a1=>
    intro j u hj;match j,hj with
    | 0,hj=>simp at hj;subst hj;simp[Addr.add]
   case a2=>intro u hu;simp at hu;subst hu;rfl
   case a3=>unfold maxLen;omega
   case a4=>omega
   case a5=>simp;omega
   intro v' W D h _ ah;have Y:Below V.heap.size V (V.alloc (.cells #[.int .u8 t] 5)):=(Qh _ _).alloc (Qb _) _;have hR:=Zru O.o Y h D (by simpa using ah);have a1:W.cell? ⟨b,41,none⟩=some (S 0):=by rw[Qo (w:=V.alloc (.cells #[.int .u8 t] 5)) (h.block b (by simp;omega) C.o),Y.cell (p:=⟨b,41,none⟩) ak];exact ae
   have f1:W.frozen? ⟨b,41,none⟩=false:=by rw[Qz (w:=V.alloc (.cells #[.int .u8 t] 5)) (h.block b (by simp;omega) C.o),Y.frozen (p:=⟨b,41,none⟩) ak];exact ag
   obtain⟨pp,cc,hv⟩:=Zc D;subst hv;obtain⟨I,aa⟩:∃I,I=λj=>if j=0 then .slice pp (q.ls.length+1) cc else S j:=⟨_,rfl⟩
   rw[<-aa]at hR;obtain⟨y,m⟩:∃y,y=W.setCell ⟨b,41,none⟩ (.slice pp (q.ls.length+1) cc):=⟨_,rfl⟩
   rw[<-m]at hR;obtain⟨X,T7⟩:=hR;have af:y.cell? ⟨b,42,none⟩=some (I 1):=X.c 1 (by omega);have ap:=X.f 42 (by omega);have B:=X.lt;have g:y.ownsRow (b+1) 5 1 (I 1) q.vs.length (q.vs.map (Value.int .u8)):=X.o 1 (by omega);have k:some b≠(I 1).ownBlock:=λe=>by have:=(g.lt _ e.symm).1;omega
   have T8:Kp (Zq b b S I w y):=⟨(Zq.rd T6.o).trans T7⟩
   replace g:=Z_ g;replace k:=Z_ k;replace X:=Z_ X;replace aa:=Z_ aa;replace m:=Z_ m;clear D h ah l C T7 O ae ag;have ar:(W.setCell ⟨b,41,none⟩ (.slice pp (q.ls.length+1) cc)).cell? ⟨b,42,none⟩=some (I 1):=by rw[<-m.o];exact af
   have L:Kp ((W.setCell ⟨b,41,none⟩ (.slice pp (q.ls.length+1) cc)).ownsRow (b+1) 5 1 (I 1) q.vs.length (q.vs.map (Value.int .u8))):=⟨by rw[<-m.o];exact g.o⟩
   go_wp2_with (at_builtin;refine wpList_append_own_at _ rfl _ _ 56 rfl (b+1) 5 i0 (.int .u8 0) 1 1 Tryz.underlying56 ai am an ao rfl (by decide) _ _ _ rfl (L.o.alloc _) ⟨W.heap.size,0,none⟩ 1 1 [.int .u8 E] rfl rfl ?b1 ?b2 ?b3 ?b4 ?b5 ?_)
   case b2=>rfl
   case b3=>unfold maxLen;omega
   case b4=>omega
   case b5=>have:=B;rw[m.o]at this;simp at this;omega
   intro v2 w7 x d _ U;rw[<-m.o]at d;have al:W.heap.size=y.heap.size:=by rw[m.o];simp
   have z:Below y.heap.size y (y.alloc (.cells #[.int .u8 E] 5)):=(Qh _ _).alloc (Qb _) _;have J:=Zrv X.o z d x (by rw[show (y.alloc (.cells #[.int .u8 E] 5)).heap.size=W.heap.size+1 from by rw[al];simp];simpa using U);have a2:w7.cell? ⟨b,42,none⟩=some (I 1):=by rw[Qo (w:=y.alloc (.cells #[.int .u8 E] 5)) (d.block b (by simp;omega) k.o),z.cell (p:=⟨b,42,none⟩) B];exact af
   have f2:w7.frozen? ⟨b,42,none⟩=false:=by rw[Qz (w:=y.alloc (.cells #[.int .u8 E] 5)) (d.block b (by simp;omega) k.o),z.frozen (p:=⟨b,42,none⟩) B];exact ap
   obtain⟨p2,au,aq⟩:=Zc x;subst aq;replace J:=Z_ J;clear x d U g k;go_wp2_with fail;first|go_end0|refine Qi (Qp rfl _ _ _) rfl ?_
   exact⟨rfl,_,J.o.1,T8.o.trans J.o.2⟩
theorem Zw.prAt(H:Zw w b s q S):CG w b 4 q.pn q.pr:=
 ⟨H.lt,H.c4,λi j a c=>H.cp i j a c,λk d=>H.f (4+k) (by omega)⟩
theorem Zw.pairs{w':World}{f:Nat->Nat->Bool}(H:Zw w b s q S)(P:CG w' b 4 q.pn f)(T:GC w w' b 4):Zw w' b s {q with pr:=f} S∧Zq b b S S w w':=by
 have h:∀j,4+37<=DQ j:=λj=>by have:=M9 j;omega
 refine⟨⟨by rw[T.size];exact H.lt,(T.cell 0 (by omega)).trans H.c0,(T.cell 1 (by omega)).trans H.c1,(T.cell 2 (by omega)).trans H.c2,(T.cell 3 (by omega)).trans H.c3,(T.cell 4 (by omega)).trans H.c4,λi j m a=>P.c i j m a,(T.cell 44 (by omega)).trans H.ch,(T.cell 45 (by omega)).trans H.ci,λj a=>(T.cell _ (.inr (h j))).trans (H.c j a),λj a=>ZQ (H.o j a) λg l=>T.block g (by have:=((H.o j a).lt g l).1;omega),H.d,λj a=>(T.frozen j).trans (H.f j a)⟩,⟨T.os,T.tape,T.output,by rw[T.size];exact Qb _,λk _ e _ _=>T.block k e,λ_ _=>.inl rfl⟩⟩
theorem Zw.newPr(H:Zw w b s q S)(n:Int)(f:Nat->Nat->Bool):Zw (w.setCells b 4 (Bg 37 (ZS n f)).toList) b s {q with pn:=n,pr:=f} S∧Zq b b S S w (w.setCells b 4 (Bg 37 (ZS n f)).toList):=by
 have h:AG b w.heap.size w (w.setCells b 4 (Bg 37 (ZS n f)).toList):=Z6 (AG.refl _ _ _) _ _;have l:∀j,j<37->(w.cell? ⟨b,4+j,none⟩).isSome=true:=λj e=>by rw[H.prAt.cells j e];rfl
 have a:∀k,(k<4∨41<=k)->(w.setCells b 4 (Bg 37 (ZS n f)).toList).cell? ⟨b,k,none⟩=w.cell? ⟨b,k,none⟩:=λk r=>World.cell?_setCells_out b _ 4 w ⟨b,k,none⟩ (λ_ _=>by rw[IZ];show k<4∨4+37<=k;omega);have m:∀k,(w.setCells b 4 (Bg 37 (ZS n f)).toList).frozen? ⟨b,k,none⟩=w.frozen? ⟨b,k,none⟩:=λk=>by rw[QQ]
 have t:b<(w.setCells b 4 (Bg 37 (ZS n f)).toList).heap.size:=Qq H.lt h.size;have P:CG (w.setCells b 4 (Bg 37 (ZS n f)).toList) b 4 n f:=CG.of_cells t (ZE w b 4 37 _ l) (λj e=>(m _).trans (H.f (4+j) (by omega)));have v:∀j,41<=DQ j:=λj=>by have:=M9 j;omega
 exact⟨⟨t,(a 0 (by omega)).trans H.c0,(a 1 (by omega)).trans H.c1,(a 2 (by omega)).trans H.c2,(a 3 (by omega)).trans H.c3,P.c0,λi j x e=>P.c i j x e,(a 44 (by omega)).trans H.ch,(a 45 (by omega)).trans H.ci,λj e=>(a _ (.inr (v j))).trans (H.c j e),λj e=>ZQ (H.o j e) λg p=>h.block g ((H.o j e).lt g p).2 (by have:=((H.o j e).lt g p).1;omega),H.d,λj e=>(m j).trans (H.f j e)⟩,⟨h.os,h.tape,h.output,h.size,λk r u _ _=>h.block k r u,λ_ _=>.inl rfl⟩⟩
theorem Zw.prEq{f:Nat->Nat->Bool}(H:Zw w b s q S)(h:∀i j,i<6->j<6->q.pr i j=f i j):Zw w b s {q with pr:=f} S:=
 ⟨H.lt,H.c0,H.c1,H.c2,H.c3,H.c4,λi j a e=>by show _=some (Value.bool (f i j));rw[<-h i j a e];exact H.cp i j a e,H.ch,H.ci,H.c,H.o,H.d,H.f⟩
theorem Vu{r r':Rd}(h:Ah s r'<=Ah s r)(c:r'.er=0->r.er=0):AJ s r'<=AJ s r:=by
 unfold AJ;by_cases a:r'.er=0
 ·rw[if_pos a,if_pos (c a)];omega
 ·rw[if_neg a];split<;>omega
theorem UL(s:ZB)(r:Rd)(a b:Int):AJ s (An s r a b)<=AJ s r:=Vu (IU s r a b) J6
theorem ZsG{r:Rd}{a b:Int}(f:0<=a)(g:r.er=0):AJ s (An s r a b)<AJ s r:=by
 have j:AJ s r=Ah s r+1:=by unfold AJ;rw[if_pos g]
 cases h:Eo s r a b with
 | true=>have:=NF (s:=s) (r:=r) (ok:=Eo s r a b) (e:=11) h (Pn f h);have i:Ah s (An s r a b)<Ah s r:=this;unfold AJ at *;split<;>omega
 | false=>
  have d:An s r a b=Bi (Aa s r) 11:=by unfold An BW;rw[if_neg (by rw[h];simp)]
  have c:(Bi (Aa s r) 11).er≠0:=Dr (by omega);rw[d];have:AJ s (Bi (Aa s r) 11)=0:=by unfold AJ;rw[IY c,if_neg c]
  omega
theorem ZsH(s:ZB)(r:Rd):AJ s (Aa s r)<=AJ s r:=Vu (Zu s r) (λh=>by rw[Zl]at h;exact h)
theorem ZsI(g:q.r.er=0):AJ s (BI s {q with r:=Aa s q.r}).r<AJ s q.r:=by
 have l:AJ s q.r=Ah s q.r+1:=by unfold AJ;rw[if_pos g]
 have a:∀e:Int,e≠0->AJ s (Bi (Aa s (Aa s q.r)) e)=0:=λe h=>by have d:(Bi (Aa s (Aa s q.r)) e).er≠0:=Dr h;unfold AJ;rw[IY d,if_neg d]
 unfold BI;split
 ·show AJ s (Bi (Aa s (Aa s q.r)) 11)<_;rw[a 11 (by omega)];omega
 ·rename_i c;split
  ·show AJ s (Bi (Aa s (Aa s q.r)) 12)<_;rw[a 12 (by omega)];omega
  ·show AJ s (An s (nx (Aa s (Aa s q.r))) 0 (q.n-1))<_;have i:Ae s q.r≠0:=by have c:¬Ct (Ae s (Aa s q.r))=false:=c;rw[Zs]at c;unfold Ct at c;simp at c;omega
   have f:=UL s (nx (Aa s (Aa s q.r))) 0 (q.n-1);rw[Z3]at f ⊢;have j:=ZR i;have k:AJ s (nx (Aa s q.r))<=Ah s (nx (Aa s q.r))+1:=by unfold AJ;split<;>omega
   omega
theorem ZsJ(G:Gd s q)(e:q.ls.length<=900):Gd s (BI s q):=by
 unfold BI;split
 ·exact G.r (by rw[Km];exact Ze G.le)
 ·rename_i c;split
  ·exact G.r (by rw[Km];exact Ze G.le)
  ·have d:Ae s q.r≠0:=by unfold Ct at c;simp at c;omega
   refine⟨DX (by omega) (Dk d),G.n0,G.n6,λx a=>?_,?_,?_,G.h0,G.h1,G.ev⟩
   ·have a:x∈q.vs++[AW s (nx (Aa s q.r)) 0 (q.n-1)]:=a;rw[QI,QA]at a;rcases a with a|a
    ·exact G.vb x a
    ·rw[a];exact No G.n6
   ·show (q.ls++_).length<=1000;rw[Qe];show q.ls.length+1<=_;omega
   ·show (q.vs++_).length=(q.ls++_).length;rw[Qe,Qe,G.vl];rfl
theorem UM:AA s (BI s q)<=AA s q:=by
 unfold BI;split
 ·exact D7 (Je (by rw[LH (by omega)];exact Q8 _) (λh=>absurd h (Dr (by omega))))
 ·split
  ·exact D7 (Je (by rw[LH (by omega)];exact Q8 _) (λh=>absurd h (Dr (by omega))))
  ·rename_i a _;have c:Ae s q.r≠0:=by unfold Ct at a;simp at a;omega
   have d:=Z7 s (nx (Aa s q.r)) 0 (q.n-1);have e:=Zt c;rw[CH,CH];show q.cd.length+q.ss.length+Bm s (An s (nx (Aa s q.r)) 0 (q.n-1))<=_;omega
theorem Zrw:(BI s q).ls.length<=q.ls.length+1:=by
 unfold BI;split
 ·exact Nat.le_succ _
 ·split
  ·exact Nat.le_succ _
  ·show (q.ls++_).length<=_;rw[Qe];exact Qb _
def ZsY(b:Nat)(s:ZB)(S:Nat->Value)(w:World)(y:Tq)(e:Ending)(w':World):Prop:=
 e=.returned (.tuple #[])∧∃S',Zw w' b s y S'∧Zq b b S S' w w'∧Gd s y∧AA s y<=5000
theorem Zpz(b:Nat)(s:ZB)(hs:s.size<=300)(q:Tq)(S:Nat->Value)(w:World)(H:Zw w b s q S)(G:Gd s q)(N:AA s q<=5000)(hl:q.ls=[]) :
  Calls prog 38 #[.pointer (some ⟨b,0,none⟩)] w (ZsY b s S w (Br s q)):=by
 have hD:=Q1 b s q.r 1 6 w H.rdAt (G.ok hs);obtain⟨n,hn⟩:∃n,AW s q.r 1 6=n:=⟨_,rfl⟩
 obtain⟨O,J⟩:∃O,An s q.r 1 6=O:=⟨_,rfl⟩
 rw[hn,J]at hD;have ax:0<=n∧n<=6∧(O.er=0->1<=n):=by
  rw[<-hn,<-J];unfold AW;refine⟨?_,?_,λh=>?_⟩
  ·split
   ·rename_i h;have:=QB h;omega
   ·omega
  ·split
   ·rename_i h;have:=QB h;omega
   ·omega
  ·have h2:=(Ij (by omega) h).2;rw[if_pos h2];have:=QB h2;omega
 obtain⟨n0,n6,n1⟩:=ax;obtain⟨E,D⟩:∃E:Tq,E={q with r:=O,n:=n,pn:=n,pr:=λi j=>decide (i=j)}:=⟨_,rfl⟩
 obtain⟨k,U⟩:∃k,BR s (s.size+1) E=k:=⟨_,rfl⟩
 obtain⟨F,V⟩:∃F,BE s (s.size+1) {k with r:=tk s k.r 46}=F:=⟨_,rfl⟩
 have hQ:Br s q={F with r:=tk s F.r 46}:=by unfold Br;dsimp only;rw[hn,J,<-D,U,V]
 rw[hQ];have G0:Gd s E:=by rw[D];exact⟨by show O.a<=_;rw[<-J];exact DX (by omega) G.le,n0,n6,G.vb,G.ll,G.vl,G.h0,G.h1,G.ev⟩
 have p0:AA s E<=5000:=by
  have h1:Bm s O<=Bm s q.r:=by rw[<-J];exact Z7 _ _ _ _
  have h2:=CH s q;have h3:AA s E=q.cd.length+q.ss.length+Bm s O:=by rw[D];exact CH _ _
  omega
 have m0:AJ s E.r<=s.size+1:=by have:=Z5 s E.r;unfold AJ;split<;>omega
 have l0:E.ls=[]:=by rw[D];exact hl
 have hA1:Kp (∀d,Zi w d b O->Zw (d.setCell ⟨b,3,none⟩ (.int .i64 n)) b s {q with r:=O,n:=n} S∧Zq b b S S w (d.setCell ⟨b,3,none⟩ (.int .i64 n))):=⟨λd T=>by
  have h:=(H.rd T).setN n;exact⟨h.1,(Zq.rd T).trans h.2⟩⟩
 have aa:=λd=>Wp n d n0 n6;have ae:Kp (E.n=n∧E.pn=n∧E.r=O):=⟨by rw[D];exact⟨rfl,rfl,rfl⟩⟩
 have hA2:Kp (∀d,Zw d b s {q with r:=O,n:=n} S->Zw (d.setCells b 4 (Bg 37 (ZS n (λi j=>decide (i=j∧i<6)))).toList) b s E S∧Zq b b S S d (d.setCells b 4 (Bg 37 (ZS n (λi j=>decide (i=j∧i<6)))).toList)):=⟨λd A=>by
  have h:=A.newPr n (λi j=>decide (i=j∧i<6));refine⟨?_,h.2⟩;rw[D];refine h.1.prEq (f:=λi j=>decide (i=j)) λi j hi R=>?_;show decide (i=j∧i<6)=decide (i=j)
  apply QM.2;rw[decide_eq_true_eq,decide_eq_true_eq];omega⟩
 have f3:Kp (∀d,Zi w d b O->(∃v,d.cell? ⟨b,3,none⟩=some v)∧d.frozen? ⟨b,3,none⟩=false):=⟨λd T=>⟨⟨_,(H.rd T).c3⟩,(H.rd T).f 3 (by omega)⟩⟩
 have al:Kp (∀(z:Tq) d S1,Zw d b s z S1->Gd s z->Calls prog 89 #[.pointer (some ⟨b,0,none⟩),.int .u8 46] d λe C=>e=.returned (.bool (decide (z.r.er=0∧Ae s z.r≠46)))∧Zi d C b (Aa s z.r)):=⟨λz d S1 A Gz=>Rg b s z.r 46 d A.rdAt (Gz.ok hs)⟩
 have am:Kp (∀(z:Tq) d S1,Zw d b s z S1->Gd s z->Calls prog 92 #[.pointer (some ⟨b,0,none⟩),.int .u8 46] d λe C=>e=.returned (.tuple #[])∧Zi d C b (tk s z.r 46)):=⟨λz d S1 A Gz=>Gi b s z.r 46 d A.rdAt (Gz.ok hs)⟩
 have ab:Kp (∀(z:Tq) d S1,Zw d b s z S1->Gd s z->Calls prog 90 #[.pointer (some ⟨b,0,none⟩)] d λe C=>e=.returned (.int .i64 (AW s z.r 0 (z.n-1)))∧Zi d C b (An s z.r 0 (z.n-1))):=⟨λz d S1 A Gz=>Mt b s z S1 d A (Gz.ok hs) ⟨Gz.n0,Gz.n6⟩⟩
 replace hD:=Z_ hD;replace aa:=Z_ aa;replace U:=Z_ U;replace V:=Z_ V;replace G0:=Z_ G0;replace p0:=Z_ p0;replace m0:=Z_ m0;replace l0:=Z_ l0;replace n1:=Z_ n1;clear H G N hl hn J D hQ;go_in;go_wp2_with fail;refine hD.o.mono ?_;rintro e d ⟨rfl,R1⟩;obtain⟨⟨v3,c3⟩,e3⟩:=f3.o _ R1;have A1:=hA1.o _ R1;have d3:=A1.1.c3;obtain⟨w2,ak⟩:∃w2,w2=d.setCell ⟨b,3,none⟩ (.int .i64 n):=⟨_,rfl⟩
 rw[<-ak]at A1 d3;have d3:w2.cell? ⟨b,3,none⟩=some (.int .i64 n):=d3;replace A1:=Z_ A1;replace R1:=Z_ R1;clear hD hA1 f3;go_wp2_with fail;rw[<-ak];refine(aa.o _).mono ?_;rintro e X ⟨rfl,af⟩;have I:=A1.o.1.step af;have T3:Zq b b S S w X:=A1.o.2.trans (Zq.below af);have A4:=hA2.o _ I;have ao:∀j,j<37->(X.cell? ⟨b,4+j,none⟩).isSome=true:=λj R=>by rw[I.prAt.cells j R];rfl
 have an:∀j,j<37->X.frozen? ⟨b,4+j,none⟩=false:=λj R=>I.f (4+j) (by omega);obtain⟨w4,W⟩:∃w4,w4=X.setCells b 4 (Bg 37 (ZS n (λi j=>decide (i=j∧i<6)))).toList:=⟨_,rfl⟩
 rw[<-W]at A4;have T4:Kp (Zq b b S S w w4):=⟨T3.trans A4.2⟩
 have A5:Kp _:=⟨A4.1⟩
 replace W:=Z_ W;clear A4 I T3 A1 ak af c3 e3 d3;dsimp only;repeat (first|(refine Zp 100 (.tmp 18) (.tmp 16) rfl b 4 37 (ZS n (λi j=>decide (i=j∧i<6))) rfl rfl (by kernel_rfl) ao an (λj _=>Py _ _ j) ?_;rw[<-W.o];dsimp only [Act.put])|go_step)
 clear ao an W;go_loopg [2] (AJ s E.r) (λgm pv wr=>∃(j:Nat) (z:Tq) (l:Nat->Value),Kp (Zw wr b s z l)∧Kp (Gd s z)∧Kp (z.n=n∧z.pn=n∧(z.r.er=0->1<=n))∧Kp (z.ls=[])∧Kp (AA s z<=5000)∧Kp (AJ s z.r<=j)∧Kp (BR s j z=k)∧Kp (Zq b b S l w wr)∧Kp (gm=AJ s z.r));case atStart=>exact⟨s.size+1,E,S,A5,G0,⟨ae.o.1,ae.o.2.1,λh=>n1.o (by rw[<-ae.o.2.2];exact h)⟩,l0,p0,m0,U,T4,⟨rfl⟩⟩
 case round=>
  clear A5 T4 G0 p0 m0 l0 U hA2 aa ae n1;obtain⟨j,z,l,Q,t,hz,B,N,R,hf,hT,hm⟩:=hrel;have p:=al.o z wr l Q.o t.o;by_cases u:z.r.er=0∧Ae s z.r≠46
  ·rw[Qv u]at p;have aj:AJ s z.r=Ah s z.r+1:=by unfold AJ;rw[if_pos u.1]
   have ag:=R.o;obtain⟨j,rfl⟩:∃i,j=i+1:=⟨j-1,by omega⟩
   have ap:1<=n:=hz.o.2.2 u.1;have Ga:Gd s {z with r:=Aa s z.r}:=t.o.r (Ze t.o.le);have pa:AA s {z with r:=Aa s z.r}<=5000:=CF (Zh _ _) N.o;obtain⟨M,K⟩:∃M,An s (Aa s z.r) 0 (z.n-1)=M:=⟨_,rfl⟩
   obtain⟨m,L⟩:∃m,An s M 0 (z.n-1)=m:=⟨_,rfl⟩
   have ar:z.n=n:=hz.o.1;have au:z.pn=n:=hz.o.2.1;have da:=Gm (s:=s) (r:=Aa s z.r) (n:=z.n) (by omega);have dc:=Gm (s:=s) (r:=M) (n:=z.n) (by omega);obtain⟨a,ha⟩:∃a:Nat,AW s (Aa s z.r) 0 (z.n-1)=a:=⟨(AW s (Aa s z.r) 0 (z.n-1)).toNat,by omega⟩
   obtain⟨c,ad⟩:∃c:Nat,AW s M 0 (z.n-1)=c:=⟨(AW s M 0 (z.n-1)).toNat,by omega⟩
   rw[ha]at da;rw[ad]at dc;have Gb:Gd s {z with r:=M}:=by rw[<-K];exact t.o.r (DX (by omega) (Ze t.o.le))
   have Y:Gd s {z with r:=m}:=by rw[<-L];exact t.o.r (DX (by omega) Gb.le)
   have h1:Kp (∀d,Zi wr d b (Aa s z.r)->Calls prog 90 #[.pointer (some ⟨b,0,none⟩)] d λe C=>e=.returned (.int .i64 a)∧Zi d C b M):=⟨λd T=>by
    have:=ab.o {z with r:=Aa s z.r} d l (Q.o.rd T) Ga;have this:Calls prog 90 #[.pointer (some ⟨b,0,none⟩)] d λe C=>e=.returned (.int .i64 (AW s (Aa s z.r) 0 (z.n-1)))∧Zi d C b (An s (Aa s z.r) 0 (z.n-1)):=this;rw[ha,K]at this;exact this⟩
   have h2:Kp (∀d,Zi wr d b M->Calls prog 90 #[.pointer (some ⟨b,0,none⟩)] d λe C=>e=.returned (.int .i64 c)∧Zi d C b m):=⟨λd T=>by
    have:=ab.o {z with r:=M} d l (Q.o.rd T) Gb;have this:Calls prog 90 #[.pointer (some ⟨b,0,none⟩)] d λe C=>e=.returned (.int .i64 (AW s M 0 (z.n-1)))∧Zi d C b (An s M 0 (z.n-1)):=this;rw[ad,L]at this;exact this⟩
   have h3:Kp (∀d,Zi wr d b m->Calls prog 91 #[.pointer (some ⟨b,4,none⟩),.int .i64 a,.int .i64 c] d λe C=>e=.returned (.tuple #[])∧Zw C b s (Cc {z with r:=m} a c) l∧Zq b b l l d C):=⟨λd T=>by
    have A:=Q.o.rd T;refine(ZoL b 4 a c z.pn z.pr d A.prAt (by omega) (by omega) (by omega)).mono ?_;rintro e w2 ⟨rfl,P2,T2⟩;have:=A.pairs P2 T2;exact⟨rfl,this.1,this.2⟩⟩
   have Gn:Kp (Gd s (Cc {z with r:=m} a c)):=⟨⟨Y.le,Y.n0,Y.n6,Y.vb,Y.ll,Y.vl,Y.h0,Y.h1,Y.ev⟩⟩
   have aq:Bm s m<=Bm s z.r:=by rw[<-L,<-K];exact Qg (Z7 _ _ _ _) (Qg (Z7 _ _ _ _) (Zh _ _))
   have pn:Kp (AA s (Cc {z with r:=m} a c)<=5000):=⟨Qg (D7 (q:=z) aq) N.o⟩
   have ai:AJ s m<AJ s z.r:=by have k1:=UL s M 0 (z.n-1);have k2:=ZsG (s:=s) (r:=Aa s z.r) (a:=0) (b:=z.n-1) (by omega) (by rw[Zl];exact u.1);have k3:=ZsH s z.r;rw[L]at k1;rw[K]at k2;omega
   have g:BR s j (Cc {z with r:=m} a c)=k:=by rw[<-hf.o];simp only[BR];rw[if_pos u,K,L,ha,ad]
   have az:Kp ((Cc {z with r:=m} a c).n=n∧(Cc {z with r:=m} a c).pn=n∧((Cc {z with r:=m} a c).r.er=0->1<=n)):=⟨ar,au,λ_=>ap⟩
   have aw:Kp ((Cc {z with r:=m} a c).ls=[]):=⟨B.o⟩
   have jn:Kp (AJ s (Cc {z with r:=m} a c).r<=j∧AJ s (Cc {z with r:=m} a c).r<AJ s z.r):=⟨by show AJ s m<=j∧AJ s m<AJ s z.r;omega⟩
   replace p:=Z_ p;replace g:=Z_ g;generalize Cc {z with r:=m} a c=z2 at *;clear u aj ag ap Ga pa K L ar au da dc ha ad Gb Y aq ai hf t hz B N R ab;go_wp2_with fail;refine p.o.mono ?_;rintro e w2 ⟨rfl,y⟩;replace y:=Z_ y;go_wp2_with fail;refine(h1.o _ y.o).mono ?_;rintro e X ⟨rfl,Z⟩;have R4:Kp _:=⟨y.o.trans Z⟩
   clear Z;go_wp2_with fail;refine(h2.o _ R4.o).mono ?_;rintro e w5 ⟨rfl,R5⟩;have R6:Kp _:=⟨R4.o.trans R5⟩
   clear R5;go_wp2_with fail;refine(h3.o _ R6.o).mono ?_;rintro e w7 ⟨rfl,A7,T7⟩;replace A7:=Z_ A7;have T8:Kp (Zq b b S l w w7):=⟨hT.o.trans ((Zq.rd R6.o).trans T7)⟩
   clear T7;go_wp2_with fail;go_roundg (AJ s z2.r);case measure=>have h1:=hm.o;have h2:=jn.o;omega
   case rel=>exact⟨j,z2,l,A7,Gn,az,aw,pn,⟨jn.o.1⟩,g,T8,⟨rfl⟩⟩
  ·rw[Qx u]at p;have g:{z with r:=Aa s z.r}=k:=by
    rw[<-hf.o];cases j with
    | zero=>rfl
    | succ j=>simp only[BR];rw[if_neg u]
   have hA2:Kp (∀d,Zi wr d b (Aa s z.r)->Zw d b s k l):=⟨λd T=>by rw[<-g];exact Q.o.rd T⟩
   have G1:Kp (Gd s k):=⟨by rw[<-g];exact t.o.r (Ze t.o.le)⟩
   have G2:Kp (Gd s {k with r:=tk s k.r 46}):=⟨G1.o.r (Z4 G1.o.le (by omega))⟩
   have p2:Kp (AA s {k with r:=tk s k.r 46}<=5000):=⟨CF (ZT _ _ _) (by rw[<-g];exact CF (Zh _ _) N.o)⟩
   have l2:Kp (({k with r:=tk s k.r 46}:Tq).ls.length+AJ s (tk s k.r 46)<=400):=⟨by
    have h1:k.ls=[]:=by rw[<-g];exact B.o
    have h2:=Z5 s (tk s k.r 46);have h3:AJ s (tk s k.r 46)<=Ah s (tk s k.r 46)+1:=by unfold AJ;split<;>omega
    show k.ls.length+_<=_;rw[h1];show 0+_<=_;omega⟩
   have m2:Kp (AJ s (tk s k.r 46)<=s.size+1):=⟨by have:=Z5 s (tk s k.r 46);unfold AJ;split<;>omega⟩
   replace p:=Z_ p;clear u g hf t hz B N R Q hm ab;go_wp2_with fail;refine p.o.mono ?_;rintro e w2 ⟨rfl,y⟩;have P:=hA2.o _ y;have T2:Kp (Zq b b S l w w2):=⟨hT.o.trans (Zq.rd y)⟩
   replace P:=Z_ P;clear hT p hA2 y;go_wp2_with fail;refine(am.o k _ _ P.o G1.o).mono ?_;rintro e X ⟨rfl,Z⟩;have I:Kp _:=⟨P.o.rd Z⟩
   have T3:Kp (Zq b b S l w X):=⟨T2.o.trans (Zq.rd Z)⟩
   clear Z P T2;go_wp2_with fail;obtain⟨wq,ay⟩:∃x,x=wr:=⟨_,rfl⟩
   go_loopg [37] (AJ s (tk s k.r 46)) (λgm pv wr=>∃(j:Nat) (z:Tq) (l:Nat->Value),Kp (Zw wr b s z l)∧Kp (Gd s z)∧Kp (z.ls.length+AJ s z.r<=400)∧Kp (AA s z<=5000)∧Kp (AJ s z.r<=j)∧Kp (BE s j z=F)∧Kp (Zq b b S l w wr)∧Kp (gm=AJ s z.r));case atStart=>exact⟨s.size+1,{k with r:=tk s k.r 46},l,I,G2,l2,p2,m2,V,T3,⟨rfl⟩⟩
   case round=>
    clear I T3 G1 G2 p2 l2 m2 V ay;obtain⟨j,z,l,Q,t,B,N,R,hf,hT,hm⟩:=hrel;have p:=al.o z wr l Q.o t.o;by_cases u:z.r.er=0∧Ae s z.r≠46
    ·rw[Qv u]at p;have aj:AJ s z.r=Ah s z.r+1:=by unfold AJ;rw[if_pos u.1]
     have ag:=R.o;have av:=B.o;obtain⟨j,rfl⟩:∃i,j=i+1:=⟨j-1,by omega⟩
     have Ga:Gd s {z with r:=Aa s z.r}:=t.o.r (Ze t.o.le);have pa:AA s {z with r:=Aa s z.r}<=5000:=CF (Zh _ _) N.o;have ai:=ZsI (s:=s) (q:=z) u.1;have ah:=Zrw (s:=s) (q:={z with r:=Aa s z.r});have ah:(BI s {z with r:=Aa s z.r}).ls.length<=z.ls.length+1:=ah;have h1:Kp (∀d,Zi wr d b (Aa s z.r)->Calls prog 93 #[.pointer (some ⟨b,0,none⟩)] d (Dz b s l d (BI s {z with r:=Aa s z.r}))):=⟨λd T=>Wt b s hs _ l d (Q.o.rd T) Ga (by omega) (by show z.ls.length<=900;omega)⟩
     have g:BE s j (BI s {z with r:=Aa s z.r})=F:=by rw[<-hf.o];simp only[BE];rw[if_pos u]
     have Gn:Kp (Gd s (BI s {z with r:=Aa s z.r})):=⟨ZsJ Ga (by show z.ls.length<=900;omega)⟩
     have pn:Kp (AA s (BI s {z with r:=Aa s z.r})<=5000):=⟨Qg UM pa⟩
     have ln:Kp ((BI s {z with r:=Aa s z.r}).ls.length+AJ s (BI s {z with r:=Aa s z.r}).r<=400):=⟨by omega⟩
     have jn:Kp (AJ s (BI s {z with r:=Aa s z.r}).r<=j∧AJ s (BI s {z with r:=Aa s z.r}).r<AJ s z.r):=⟨by omega⟩
     generalize BI s {z with r:=Aa s z.r}=z2 at *;replace p:=Z_ p;replace g:=Z_ g;clear u aj ag av Ga pa ai ah hf t B N R;go_wp2_with fail;refine p.o.mono ?_;rintro e w2 ⟨rfl,y⟩;replace y:=Z_ y;go_wp2_with fail;refine(h1.o _ y.o).mono ?_;rintro e X ⟨rfl,S3,I,T3⟩;replace I:=Z_ I;have T4:Kp (Zq b b S S3 w X):=⟨hT.o.trans ((Zq.rd y.o).trans T3)⟩
     clear T3;go_wp2_with fail;go_roundg (AJ s z2.r);case measure=>have h1:=hm.o;have h2:=jn.o;omega
     case rel=>exact⟨j,z2,S3,I,Gn,ln,pn,⟨jn.o.1⟩,g,T4,⟨rfl⟩⟩
    ·rw[Qx u]at p;have g:{z with r:=Aa s z.r}=F:=by
      rw[<-hf.o];cases j with
      | zero=>rfl
      | succ j=>simp only[BE];rw[if_neg u]
     have hA2:Kp (∀d,Zi wr d b (Aa s z.r)->Zw d b s F l):=⟨λd T=>by rw[<-g];exact Q.o.rd T⟩
     have G2:Kp (Gd s F):=⟨by rw[<-g];exact t.o.r (Ze t.o.le)⟩
     have G3:Kp (Gd s {F with r:=tk s F.r 46}):=⟨G2.o.r (Z4 G2.o.le (by omega))⟩
     have p3:Kp (AA s {F with r:=tk s F.r 46}<=5000):=⟨CF (ZT _ _ _) (by rw[<-g];exact CF (Zh _ _) N.o)⟩
     replace p:=Z_ p;clear u g hf t B N R Q hm;go_wp2_with fail;refine p.o.mono ?_;rintro e w2 ⟨rfl,y⟩;have P:=hA2.o _ y;have T2:Kp (Zq b b S l w w2):=⟨hT.o.trans (Zq.rd y)⟩
     replace P:=Z_ P;clear hT p hA2 y;go_wp2_with fail;refine(am.o F _ _ P.o G2.o).mono ?_;rintro e X ⟨rfl,Z⟩;have I:Kp _:=⟨P.o.rd Z⟩
     have T3:Kp (Zq b b S l w X):=⟨T2.o.trans (Zq.rd Z)⟩
     clear Z P T2;go_wp2_with fail;first|go_end0|refine Qi (Qp rfl _ _ _) rfl ?_
     exact⟨rfl,l,I.o,T3.o,G3.o,p3.o⟩
theorem V5{P:Program}(w:World)(base B:Nat)(t G e:TypeId)(i:TypeInfo)(z:Value)(D:P.underlying t=some (.slice e))(J:P.info? e=some i)(Y:i.zero=some z)
  (c:i.size=1) (y:i.bytes=1) (F:z.cells.size=1) (v:Value) (n:Nat) (H:List Value) (a:w.ownsRow base e 1 v n H) (V:Value) (m:Nat) (k:List Value) (l:w.ownsRow B e 1 V m k) (M:∀u∈k,u.oneCell'=true)
  (x:n+m<=maxLen) (o:n+m<=140737488355328) (d:base<=w.heap.size) (hn:0<n) :
  ∃p h,(Builtin.append_ #[t,t] G #[v,V]).run P w=.ok p h∧h.ownsRow base e 1 p (n+m) (H++k)∧w.grownBy h v.ownBlock:=by
 rcases l.2 with ⟨rfl,rfl⟩|⟨g,r,K,rfl,hg,_⟩
 ·have X:k=[]:=List.eq_nil_of_length_eq_zero (by simpa using l.1);subst X;rcases a.2 with ⟨_,Z⟩|⟨L,f,I,rfl,Q,U,W,R,T,E⟩
  ·omega
  ·have C:=run_append_room_src (P:=P) w t t G e i D J L 0 n f (.slice none 0 0) 0 [] (by rw[c];exact Src.ofNil w D 0) (by omega) (by intro j A;simp at A) (by intro j A;simp at A);refine⟨_,_,C,?_,⟨rfl,rfl,rfl,Qb _,λ_ _ _=>rfl⟩⟩;rw[Nat.add_zero,QS];exact a
 ·obtain⟨p,h,C,N,O,_,_⟩:=run_append_own_at (P:=P) w base t G e i z 1 1 D J Y c y F (by omega) v n H a ⟨g,0,none⟩ m r k l.1 (l.cells rfl) M x (by omega) d;exact⟨p,h,C,N,O⟩
theorem P4{P:Program}(w:World){k:Array Oper}{d:List Oper}{o:Oper}{a:Act}{Q:Exit->Act->World->Prop}(C:o.guard=none)(s x:Operand)(t:TypeId)
  (N:o.op=.call {callee:=.builtin .append,args:=#[s,x],argTypes:=#[t,t]})
  (base B:Nat) (e:TypeId) (i:TypeInfo) (z:Value) (T:P.underlying t=some (.slice e)) (L:P.info? e=some i) (W:i.zero=some z)
  (g:i.size=1) (A:i.bytes=1) (D:z.cells.size=1) (v:Value) (n:Nat) (E:List Value) (R:a.eval s=v) (j:w.ownsRow base e 1 v n E) (V:Value) (m:Nat) (r:List Value) (U:a.eval x=V) (J:w.ownsRow B e 1 V m r) (F:∀u∈r,u.oneCell'=true)
  (y:n+m<=maxLen) (c:n+m<=140737488355328) (f:base<=w.heap.size) (M:0<n)
  (h:∀p l,l.ownsRow base e 1 p (n+m) (E++r)->w.grownBy l v.ownBlock->wpList P k Q d (a.put o.dst p) l):wpList P k Q (o::d) a w:=by
 refine wpList_plain C λK I=>?_;obtain⟨p,l,O,G,H⟩:=V5 (P:=P) w base B t o.type e i z T L W g A D v n E j V m r J F y c f M;unfold Oper.wp execOp;simp only[N,resolve,invoke,builtin,Ue,Sem.run_pure,Uo,List.map_toArray,List.map_cons,List.map_nil,R,U,O];exact I _ _ (h p l G H)
def bl(s:ZB):List Int:=s.data.toList.map λb=>(b.toNat:Int)
theorem EK(s:ZB):(bl s).length=s.size:=by unfold bl;rw[List.length_map];rfl
theorem PP(s:ZB):bs (bl s)=s:=by
 apply ByteArray.ext;show ((s.data.toList.map λb=>(b.toNat:Int)).map λx=>UInt8.ofNat x.toNat).toArray=s.data;rw[List.map_map];have:(λx:Int=>UInt8.ofNat x.toNat) ∘ (λb:UInt8=>(b.toNat:Int))=id:=by funext b;simp
 rw[this];simp
theorem ZpA(s:ZB):Go.Lib.strCells s=(bl s).map (Value.int .u8):=by unfold Go.Lib.strCells bl;rw[List.map_map];rfl
theorem Sp(L:List Int):∀u∈L.map (Value.int .u8),u.oneCell'=true:=by intro u a;obtain⟨x,_,rfl⟩:=List.mem_map.1 a;rfl
theorem V7(n:Int)(T:ZB)(w:World):Calls prog 103 #[.agg #[.int .i64 n,.string T]] w λe a=>e=.returned (.string T)∧Below w.heap.size w a:=by go_in;go_wp2;go_ret;exact⟨rfl,(Qh _ _).alloc (Qb _) _⟩
def KA(n:Int):List Int:=[83,n%256]
def KB(n:Int)(T:ZB):List Int:=KA n++bl T
def KC(n:Int)(T:ZB)(vs:List Int):List Int:=KB n T++[(vs.length:Int)%256]
def KD(n:Int)(T:ZB)(vs:List Int):List Int:=KC n T vs++vs
def KE(n:Int)(T:ZB)(vs cd:List Int):List Int:=KD n T vs++[((cd.length/2:Nat):Int)%256]
def F9(n:Int)(T:ZB)(vs cd:List Int):List Int:=KE n T vs cd++cd
theorem Zry(n:Int)(T:ZB):(KB n T).length=2+T.size:=by unfold KB KA;rw[Qe,EK];rfl
theorem Zrz(n:Int)(T:ZB)(vs:List Int):(KC n T vs).length=3+T.size:=by unfold KC;rw[Qe,Zry];simp;omega
theorem ZrA(n:Int)(T:ZB)(vs:List Int):(KD n T vs).length=3+T.size+vs.length:=by unfold KD;rw[Qe,Zrz]
theorem ZrB(n:Int)(T:ZB)(vs a:List Int):(KE n T vs a).length=4+T.size+vs.length:=by unfold KE;rw[Qe,ZrA];simp;omega
theorem ZsK(n:Int)(T:ZB)(vs a:List Int):bs (F9 n T vs a)=bs [83,n%256]++T++bs [(vs.length:Int)%256]++bs vs++bs [((a.length/2:Nat):Int)%256]++bs a:=by unfold F9 KE KD KC KB KA;rw[Zg,Zg,Zg,Zg,Zg,PP]
theorem Yf(n:Int)(T:ZB)(V C:Value)(vs c:List Int)(B:Nat)(w:World)(F:w.ownsRow B 5 1 V vs.length (vs.map (Value.int .u8)))(E:w.ownsRow B 5 1 C c.length (c.map (Value.int .u8)))(hT:T.size<=100)(ab:vs.length<=1000)(aa:c.length<=100000) :
  Calls prog 47 #[.agg #[.int .i64 n,.string T],V,C] w λe w'=>e=.returned (.string (bs (F9 n T vs c)))∧Below w.heap.size w w':=by
 obtain⟨m,f,g,h,i⟩:=AX Na;obtain⟨pV,kV,rfl⟩:=Zc F;obtain⟨pC,kC,rfl⟩:=Zc E;have ad:=Dg n;have ae:=Dg (vs.length:Int);have af:IntKind.u8.wrap ((c.length:Int)/2)=((c.length/2:Nat):Int)%256:=by rw[Dg];omega
 obtain⟨p,d⟩:∃p,p=(w.alloc (.cells #[.int .i64 n,.string T] 54)).alloc (.cells #[.int .u8 83,.int .u8 (n%256)] 5):=⟨_,rfl⟩
 have r:Below w.heap.size w p:=by rw[d];exact((Qh _ _).alloc (Qb _) _).alloc (by simp) _
 have t:p.ownsRow (w.heap.size+1) 5 1 (.slice (some ⟨w.heap.size+1,0,none⟩) 2 2) 2 ((KA n).map (Value.int .u8)):=by rw[d];have:=World.ownsRow_lit (base:=w.heap.size+1) (e:=5) (size:=1) (w.alloc (.cells #[.int .i64 n,.string T] 54)) #[.int .u8 83,.int .u8 (n%256)] 2 (by simp) (by unfold maxLen;omega) rfl;simpa [KA] using this
 have k:p.heap.size=w.heap.size+2:=by rw[d];simp
 replace F:=Z_ F;replace E:=Z_ E;replace t:=Z_ t;replace r:=Z_ r;replace d:=Z_ d;replace k:=Z_ k;go_in;go_wp2_with fail;rw[<-d.o];refine(V7 n T _).mono ?_;rintro e X ⟨rfl,D⟩;have N:Kp (X.ownsRow (w.heap.size+1) 5 1 (.slice (some ⟨w.heap.size+1,0,none⟩) 2 2) 2 ((KA n).map (Value.int .u8))):=⟨Zo t.o D⟩
 have Y:Kp (Below w.heap.size w X):=⟨r.o.trans (D.mono (by rw[k.o];omega))⟩
 have z1:w.heap.size+2<=X.heap.size:=by have:=D.size;rw[k.o]at this;exact this
 clear t r D;go_wp2_with (at_builtin;refine Go.Lib.wpList_append_own_string _ rfl _ _ 56 9 rfl (w.heap.size+1) 5 m Tryz.underlying56 Tryz.underlying9 f g h i _ _ _ rfl N.o T rfl (by unfold maxLen;omega) (by omega) (by omega) ?_)
 intro v2 H o2 P _;have v:Kp (H.ownsRow (w.heap.size+1) 5 1 v2 (2+T.size) ((KB n T).map (Value.int .u8))):=⟨by unfold KB;rw[QK,<-ZpA];exact o2⟩
 have Z:Kp (Below w.heap.size w H):=⟨Y.o.grown P (by omega) (λj a=>by have:=(N.o.lt j a).1;omega)⟩
 have z2:w.heap.size+2<=H.heap.size:=Qg z1 P.size;obtain⟨p2,c2,rfl⟩:=Zc v.o;clear N Y o2 P z1;go_wp2_with (at_builtin;refine wpList_append_own _ rfl _ _ 56 rfl (w.heap.size+1) 5 m (.int .u8 0) 1 1 Tryz.underlying56 f g h i rfl (by decide) _ _ _ rfl (v.o.alloc _) ⟨H.heap.size,0,none⟩ 1 1 [.int .u8 ((vs.length:Int)%256)] rfl rfl ?a1 ?a2 ?a3 ?a4 ?a5 ?_)
 case a1=>
  intro j u a;match j,a with
  | 0,a=>simp at a;subst a;simp[Addr.add]
 case a2=>intro u l;simp at l;subst l;rfl
 case a3=>unfold maxLen;omega
 case a4=>omega
 case a5=>simp;omega
 intro v3 I o3 Q _;have x:Kp (I.ownsRow (w.heap.size+1) 5 1 v3 (3+T.size) ((KC n T vs).map (Value.int .u8))):=⟨by unfold KC;rw[QK,show 3+T.size=2+T.size+1 from by omega];exact o3⟩
 have L:Kp (Below w.heap.size w I):=⟨(Z.o.alloc (by omega) _).grown Q (by simp;omega) (λj a=>by have:=(v.o.lt j a).1;omega)⟩
 have z3:w.heap.size+2<=I.heap.size:=by have:=Q.size;simp at this;omega
 obtain⟨p3,c3,rfl⟩:=Zc x.o;have V3:Kp (I.ownsRow B 5 1 (.slice pV vs.length kV) vs.length (vs.map (Value.int .u8))):=⟨Zo F.o L.o⟩
 clear v Z o3 Q z2;go_wp2_with (at_builtin;refine P4 _ rfl _ _ 56 rfl (w.heap.size+1) B 5 m (.int .u8 0) Tryz.underlying56 f g h i rfl _ _ _ rfl x.o _ _ _ rfl V3.o (Sp vs) (by unfold maxLen;omega) (by omega) (by omega) (by omega) ?_)
 intro v4 J o4 R;have z:Kp (J.ownsRow (w.heap.size+1) 5 1 v4 (3+T.size+vs.length) ((KD n T vs).map (Value.int .u8))):=⟨by unfold KD;rw[QK];exact o4⟩
 have B4:Kp (Below w.heap.size w J):=⟨L.o.grown R (by omega) (λj a=>by have:=(x.o.lt j a).1;omega)⟩
 have z4:w.heap.size+2<=J.heap.size:=Qg z3 R.size;obtain⟨p4,c4,rfl⟩:=Zc z.o;clear x L o4 R z3 V3;go_wp2_with (at_builtin;refine wpList_append_own _ rfl _ _ 56 rfl (w.heap.size+1) 5 m (.int .u8 0) 1 1 Tryz.underlying56 f g h i rfl (by decide) _ _ _ rfl (z.o.alloc _) ⟨J.heap.size,0,none⟩ 1 1 [.int .u8 (((c.length/2:Nat):Int)%256)] rfl rfl ?c1 ?c2 ?c3 ?c4 ?c5 ?_)
 case c1=>
  intro j u a;match j,a with
  | 0,a=>simp at a;subst a;simp[Addr.add]
 case c2=>intro u l;simp at l;subst l;rfl
 case c3=>unfold maxLen;omega
 case c4=>omega
 case c5=>simp;omega
 intro v5 K o5 U _;have A:Kp (K.ownsRow (w.heap.size+1) 5 1 v5 (4+T.size+vs.length) ((KE n T vs c).map (Value.int .u8))):=⟨by unfold KE;rw[QK,show 4+T.size+vs.length=3+T.size+vs.length+1 from by omega];exact o5⟩
 have M:Kp (Below w.heap.size w K):=⟨(B4.o.alloc (by omega) _).grown U (by simp;omega) (λj a=>by have:=(z.o.lt j a).1;omega)⟩
 have z5:w.heap.size+2<=K.heap.size:=by have:=U.size;simp at this;omega
 obtain⟨p5,c5,rfl⟩:=Zc A.o;have C5:Kp (K.ownsRow B 5 1 (.slice pC c.length kC) c.length (c.map (Value.int .u8))):=⟨Zo E.o M.o⟩
 clear z B4 o5 U z4;go_wp2_with (at_builtin;refine P4 _ rfl _ _ 56 rfl (w.heap.size+1) B 5 m (.int .u8 0) Tryz.underlying56 f g h i rfl _ _ _ rfl A.o _ _ _ rfl C5.o (Sp c) (by unfold maxLen;omega) (by omega) (by omega) (by omega) ?_)
 intro v6 w6 o6 g6;have O:w6.ownsRow (w.heap.size+1) 5 1 v6 (F9 n T vs c).length ((F9 n T vs c).map (Value.int .u8)):=by unfold F9;rw[QK,Qe,ZrB];exact o6
 have B6:Kp (Below w.heap.size w w6):=⟨M.o.grown g6 (by omega) (λj a=>by have:=(A.o.lt j a).1;omega)⟩
 have W:=MN (F9 n T vs c) O;obtain⟨p6,c6,rfl⟩:=Zc O;obtain⟨y,G⟩:∃y,bs (F9 n T vs c)=y:=⟨_,rfl⟩
 rw[G]at W;replace G:=Z_ G;clear A M o6 g6 z5 C5 O;generalize (F9 n T vs c).length=ag at *;go_wp2;go_ret;exact⟨by rw[G.o];rfl,B6.o⟩
def BU(s:ZB):ZB:=bs (cells (Ai s).pr (Ai s).pn.toNat)
def CQ(s:ZB):Int:=if 300<s.size then 1 else if (Ai s).r.er≠0 then (Ai s).r.er else if Az (BU s)≠0 then Az (BU s) else if 200<plQ (Ai s) then 13 else 0
def EG(s:ZB):Int:=if 300<s.size then 0 else if (Ai s).r.er≠0 then (Ai s).r.a else 0
def PS(w':World)(B:Nat)(s:ZB)(D:Value):Prop:=∃S:Nat->Value,D=.agg #[.int .i64 (BX (BU s)),.string (BU s),.int .i64 (Ai s).hi,S 3,S 1,S 2]∧w'.ownsRow B 5 1 (S 1) (Ai s).vs.length ((Ai s).vs.map (Value.int .u8))∧w'.ownsRow B 5 1 (S 2) (Ai s).cd.length ((Ai s).cd.map (Value.int .u8))∧w'.ownsRow B 109 16 (S 3) (Ai s).ss.length ((Ai s).ss.flatMap BS)
def Ns(s:ZB)(w:World)(e:Ending)(w':World):Prop:=
 ∃(D:Value),e=.returned (.tuple #[D,.int .i64 (EG s),.int .i64 (CQ s)])∧Below w.heap.size w w'∧Kp ((CQ s=0->PS w' (w.heap.size+1) s D)∧(CQ s≠0->D=.agg #[.int .i64 0,.string {data:=#[]},.int .i64 0,.slice none 0 0,.slice none 0 0,.slice none 0 0]))
def Ip(s:ZB)(k:Nat):Value:=if k=0 then .string s else if k<5 then .int .i64 0 else if k<41 then .bool false else if k<44 then .slice none 0 0 else if k<46 then .int .i64 0 else .slice none 0 0
theorem ZsL(s:ZB)(k:Nat):(Ip s k).oneCell'=true:=by
 unfold Ip;repeat (split;rfl)
 rfl
theorem ZpB(s:ZB):prog.built 102 [(0,.agg #[.string s,.int .i64 0,.int .i64 0])]=some (Bg 47 (Ip s)):=by kernel_rfl
theorem ZpC(d:b<w.heap.size)(h:∀j,j<47->w.cell? ⟨b,0+j,none⟩=some (Ip s j))(c:∀j,j<47->w.frozen? ⟨b,0+j,none⟩=false):Zw w b s Ak (λ_=>.slice none 0 0):=by
 have e:∀j,j<47->w.cell? ⟨b,j,none⟩=some (Ip s j):=λj a=>by have:=h j a;rwa [QT]at this
 refine⟨d,e 0 (by omega),e 1 (by omega),e 2 (by omega),e 3 (by omega),e 4 (by omega),λi j f a=>?_,e 44 (by omega),e 45 (by omega),λj a=>?_,λj a=>?_,λi j _ _ _=>.inl rfl,λj a=>by have:=c j a;rwa [QT]at this⟩
 ·rw[e _ (by omega)];unfold Ip;rw[if_neg (by omega),if_neg (by omega),if_pos (by omega)];rfl
 ·match j,a with
  | 0,_=>exact e 41 (by omega)
  | 1,_=>exact e 42 (by omega)
  | 2,_=>exact e 43 (by omega)
  | 3,_=>exact e 46 (by omega)
 ·match j,a with
  | 0,_=>exact Uq w _ _ _
  | 1,_=>exact Uq w _ _ _
  | 2,_=>exact Uq w _ _ _
  | 3,_=>exact Uq w _ _ _
theorem PU(w:World)(t:TypeId):AF (w.alloc (.cells #[.int .i64 0,.string {data:=#[]},.int .i64 0,.slice none 0 0,.slice none 0 0,.slice none 0 0] t)) w.heap.size [.int .i64 0,.string {data:=#[]},.int .i64 0,.slice none 0 0,.slice none 0 0,.slice none 0 0]:=by
 refine⟨by simp,?_,?_⟩
 ·intro i v a;match i,a with
  | 0,a=>simp at a;subst a;simp[go_sem]
  | 1,a=>simp at a;subst a;simp[go_sem]
  | 2,a=>simp at a;subst a;simp[go_sem]
  | 3,a=>simp at a;subst a;simp[go_sem]
  | 4,a=>simp at a;subst a;simp[go_sem]
  | 5,a=>simp at a;subst a;simp[go_sem]
  | i+6,a=>simp at a
 ·intro i v a;match i,a with
  | 0,a=>simp[go_sem]
  | 1,a=>simp[go_sem]
  | 2,a=>simp[go_sem]
  | 3,a=>simp[go_sem]
  | 4,a=>simp[go_sem]
  | 5,a=>simp[go_sem]
  | i+6,a=>simp at a
theorem NT{B d:Nat}{e:TypeId}{z:Nat}{v:Value}{k:Nat}{f:List Value}(h:w.ownsRow B e z v k f)(m:d<=B):w.ownsRow d e z v k f:=
 ⟨h.1,h.2.imp id λ⟨g,a,c,i,j,l⟩=>⟨g,a,c,i,Qg m j,l⟩⟩
theorem ZpD(s:ZB):Gd s Ak:=⟨Nat.zero_le _,by show (0:Int)<=0;omega,by show (0:Int)<=6;omega,λx a=>by simp[Ak]at a,by simp[Ak],rfl,by simp[Ak],by simp[Ak],rfl⟩
theorem Sr(a:s.size<=300):AA s Ak<=5000:=by have h:=Z5 s ⟨0,0⟩;have:AA s Ak=0+0+8*Ah s ⟨0,0⟩+12:=rfl;omega
theorem Yg(s:ZB)(w:World)(j:s.size<=maxLen)(e:300<s.size):Calls prog 17 #[.string s] w (Ns s w):=by
 have a:CQ s=1:=if_pos e;have d:EG s=0:=if_pos e;have f:Kp (∀c,Below w.heap.size w c->Ns s w (.returned (.tuple #[.agg #[.int .i64 0,.string {data:=#[]},.int .i64 0,.slice none 0 0,.slice none 0 0,.slice none 0 0],.int .i64 0,.int .i64 1])) c):=⟨λc g=>⟨_,by rw[a,d],g,⟨λh=>by rw[a]at h;omega,λ_=>rfl⟩⟩⟩
 unfold maxLen at j;have i:(300:Int)<(s.size:Int):=by omega
 clear a d;go_in;go_wp2_with fail;refine bodyPost_ret (v:=.tuple #[.agg #[.int .i64 0,.string {data:=#[]},.int .i64 0,.slice none 0 0,.slice none 0 0,.slice none 0 0],.int .i64 0,.int .i64 1]) (by simp[results,Tryz.results17,go_sem]) rfl (f.o _ ?_);exact(Qh _ _).alloc (Qb _) _
theorem Wu(s:ZB)(w:World)(hs:s.size<=300):Calls prog 17 #[.string s] w (Ns s w):=by
 obtain⟨b,hb⟩:∃b,b=w.heap.size+1:=⟨_,rfl⟩
 obtain⟨V,t⟩:∃V,V=((w.alloc (.cells #[.int .i64 0,.string {data:=#[]},.int .i64 0,.slice none 0 0,.slice none 0 0,.slice none 0 0] 58)).alloc (.cells #[.string {data:=#[]},.int .i64 0,.int .i64 0,.int .i64 0,.int .i64 0,.bool false,.bool false,.bool false,.bool false,.bool false,.bool false,.bool false,.bool false,.bool false,.bool false,.bool false,.bool false,.bool false,.bool false,.bool false,.bool false,.bool false,.bool false,.bool false,.bool false,.bool false,.bool false,.bool false,.bool false,.bool false,.bool false,.bool false,.bool false,.bool false,.bool false,.bool false,.bool false,.bool false,.bool false,.bool false,.bool false,.slice none 0 0,.slice none 0 0,.slice none 0 0,.int .i64 0,.int .i64 0,.slice none 0 0] 102)):=⟨_,rfl⟩
 have aw:V.heap.size=w.heap.size+2:=by rw[t];simp
 have P:Bk V (w.heap.size+1) 47:=by rw[t];exact Bk.of_row (VH _ _ _) (by rfl)
 have O0:AF V w.heap.size [.int .i64 0,.string {data:=#[]},.int .i64 0,.slice none 0 0,.slice none 0 0,.slice none 0 0]:=by rw[t];exact(PU w _).alloc _
 have af:Below w.heap.size w V:=by rw[t];exact((Qh _ _).alloc (Qb _) _).alloc (by simp) _
 obtain⟨w1,H⟩:∃w1,w1=V.setCells (w.heap.size+1) 0 (Bg 47 (Ip s)).toList:=⟨_,rfl⟩
 have aa:AG (w.heap.size+1) V.heap.size V w1:=by rw[H];exact Z6 (AG.refl _ _ _) _ _
 have A1:Zw w1 b s Ak (λ_=>.slice none 0 0):=ZpC (by have:=aa.size;omega) (by rw[H,hb];exact ZE V _ 0 47 _ P.c) (λj hj=>by rw[H,hb,QQ];exact P.f j hj);have O1:=O0.but aa (by omega);have Y:Below w.heap.size w w1:=af.trans ((aa.mono af.size).below (by omega));have F1:IG w1 b (λ_=>.slice none 0 0) w.heap.size:=⟨O1.lt,by omega,λj hj e=>by simp[Value.ownBlock]at e⟩
 have hH:=Zpz b s hs Ak _ w1 A1 (ZpD s) (Sr hs) rfl;obtain⟨i,aj⟩:∃i,Br s Ak=i:=⟨_,rfl⟩
 rw[aj]at hH;have ag:Bp s (s.size+1) i=Ai s:=by rw[<-aj];rfl
 have ak:Kp (∀w2 S2,Zw w2 b s i S2->Gd s i->AA s i<=5000->Calls prog 39 #[.pointer (some ⟨b,0,none⟩)] w2 (Dz b s S2 w2 (Ai s))):=⟨λw2 S2 A G hp=>by rw[<-ag];exact YT b s hs i S2 w2 A G (by omega)⟩
 have al:Kp (∀(G:Gd s i) (hp:AA s i<=5000),Gd s (Ai s)∧AA s (Ai s)<=5000):=⟨λG hp=>by
  rw[<-ag];have ax:∀k (q:Tq),Gd s q->AA s q<=5000->Gd s (Bp s k q)∧AA s (Bp s k q)<=5000:=by
   intro k;induction k with
   | zero=>intro q G hp;exact⟨G.r (Ze G.le),CF (Zh _ _) hp⟩
   | succ k ih=>
    intro q G hp;simp only[Bp];split
    ·rename_i h;exact ih _ (Ha _ _ _ (G.r (Ze G.le))) (Qg (GV s _ _ _ (by show (Aa s q.r).er=0;rw[Zl];exact h.1)) (CF (Zh _ _) hp))
    ·exact⟨G.r (Ze G.le),CF (Zh _ _) hp⟩
  exact ax _ i G hp⟩
 replace t:=Z_ t;replace H:=Z_ H;replace hb:=Z_ hb;replace hH:=Z_ hH;replace A1:=Z_ A1;replace O1:=Z_ O1;replace Y:=Z_ Y;replace F1:=Z_ F1;clear aa O0 af aw aj ag;have aB:(s.size:Int)<=300:=by omega
 go_in;repeat (first|refine IP 102 #[(0,.tmp 14)] rfl _ (ZpB s) ?_|(refine Zp 102 (.tmp 5) (.tmp 15) rfl (w.heap.size+1) 0 47 (Ip s) rfl rfl (by kernel_rfl) (by rw[<-t.o];exact P.c) (by rw[<-t.o];exact P.f) (λj _=>ZsL _ j) ?_;rw[<-t.o,<-H.o];dsimp only [Act.put])|go_step)
 rw[<-hb.o];refine hH.o.mono ?_;rintro e w2 ⟨rfl,S2,A2,T2,G2,p2⟩;have y:=al.o G2 p2;have I:=ak.o w2 S2 A2 G2 p2;replace I:=Z_ I;replace T2:=Z_ T2;replace y:=Z_ y;clear hH ak al A2 G2 p2 P t H;go_wp2_with fail;refine I.o.mono ?_;rintro e w3 ⟨rfl,W,U,T3⟩;have O:Zq b b (λ_=>.slice none 0 0) W w1 w3:=T2.o.trans T3;have B:AF w3 w.heap.size [.int .i64 0,.string {data:=#[]},.int .i64 0,.slice none 0 0,.slice none 0 0,.slice none 0 0]:=O1.o.same (F1.o.same O) O.size;have F3:=F1.o.to O;have D:Below w.heap.size w w3:=Y.o.trans ((O.o A1.o (Qb _)).mono (by rw[hb.o];omega));have aC:w.heap.size<b:=by rw[hb.o];omega
 have hS:=FK s;obtain⟨q,i⟩:∃q,Ai s=q:=⟨_,rfl⟩
 have hE:=i;rw[i]at U y;have c1:=U.c1;have c2:=U.c2;have ar:=U.lt;clear I T2 T3 O O1 F1 Y A1;by_cases z:q.r.er=0
 ·have hz:=hS.ok (by rw[<-hS.r,i];exact z);rw[i]at hz;obtain⟨_,av,_,_,_,n1,n6,_⟩:=hz;obtain⟨m,hm⟩:∃m:Nat,q.pn=m:=⟨q.pn.toNat,by omega⟩
  have ad:m<=6:=by omega
  have M:=XT b 4 m q.pr w3 (by rw[<-hm];exact U.prAt) ad;have ah:BU s=bs (cells q.pr m):=by unfold BU;rw[i,hm];rfl
  rw[<-ah]at M;have am:(BU s).size=m*m:=by rw[ah,Zd,MD]
  have ai:(BU s).size<=36:=by rw[am];exact Us ad ad
  have L:=λw4=>OH (BU s) w4 (by unfold maxLen;omega);rw[z]at c2;have l:¬300<s.size:=by omega
  have hA:EG s=0:=by unfold EG;rw[if_neg l,i,if_neg (by rw[z];simp)]
  have p:CQ s=if Az (BU s)≠0 then Az (BU s) else if 200<plQ q then 13 else 0:=by unfold CQ;rw[if_neg l,i,if_neg (by rw[z];simp)]
  have M3:=y.o.1.sml (by have:=y.o.2;omega);obtain⟨T,hT⟩:∃T,BU s=T:=⟨_,rfl⟩
  rw[hT]at M L p ai;have hD:=i;obtain⟨er,E⟩:∃er,Az T=er:=⟨_,rfl⟩
  obtain⟨ln,ab⟩:∃ln,BX T=ln:=⟨_,rfl⟩
  obtain⟨ls,R⟩:∃ls,Dc T=ls:=⟨_,rfl⟩
  rw[E,ab,R]at L;rw[E]at p;replace M:=Z_ M;replace L:=Z_ L;replace hA:=Z_ hA;replace p:=Z_ p;replace U:=Z_ U;replace B:=Z_ B;replace D:=Z_ D;replace i:=Z_ i;replace hT:=Z_ hT;replace E:=Z_ E;replace ab:=Z_ ab;replace R:=Z_ R;replace M3:=Z_ M3;clear hS av n1 n6 hm ah am l F3 hE hD ad;go_wp2_with fail;refine M.o.mono ?_;rintro e w4 ⟨rfl,b4⟩;have A4:Kp _:=⟨U.o.step b4⟩
  have O4:Kp _:=⟨B.o.step b4⟩
  have Z:Kp (Below w.heap.size w w4):=⟨D.o.trans (b4.mono D.o.size)⟩
  clear M U B D b4 c1 c2 ar;go_wp2_with fail;refine(L.o _).mono ?_;rintro e w5 ⟨rfl,b5⟩;have X:Below w4.heap.size w4 (w5.alloc (.cells #[.int .i64 ln,.string ls] 54)):=b5.alloc b5.size _;have K:=A4.o.step X;have C:=O4.o.step X;have n:Below w.heap.size w (w5.alloc (.cells #[.int .i64 ln,.string ls] 54)):=Z.o.trans (X.mono Z.o.size);have Ot:=AF.new2 w5 (.int .i64 ln) (.string ls) 54;obtain⟨N,u⟩:∃N,N=w5.alloc (.cells #[.int .i64 ln,.string ls] 54):=⟨_,rfl⟩
  rw[<-u]at K C n Ot;have aD:=Z.o.size;have aE:=b5.size;clear A4 O4 Z b5 X L;have x0:=C.c 0 _ rfl;have x1:=C.c 1 _ rfl;have x2:=C.c 2 _ rfl;have x3:=C.c 3 _ rfl;have x4:=C.c 4 _ rfl;have x5:=C.c 5 _ rfl;have y0:=C.f 0 _ rfl;have y1:=C.f 1 _ rfl;have y2:=C.f 2 _ rfl;have y3:=C.f 3 _ rfl;have y4:=C.f 4 _ rfl;have y5:=C.f 5 _ rfl;have xl:=C.lt;by_cases Q:er=0
  ·subst Q;have hP:=JT b s q W N K M3.o;have J:ls=T:=by rw[<-R.o];unfold Dc;rw[if_pos E.o]
   by_cases ae:200<plQ q
   ·have d:Kp (CQ s=13):=⟨by rw[p.o,if_neg (by simp),if_pos ae]⟩
    have x:Kp (¬(13:Int)=0):=⟨by omega⟩
    have aq:(200:Int)<(plQ q:Int):=by omega
    generalize plQ q=pl at *;replace hP:=Z_ hP;replace n:=Z_ n;replace u:=Z_ u;clear K C Ot p J M3 y;go_wp2_with fail;rw[<-u.o];refine hP.o.mono ?_;rintro e w7 ⟨rfl,hw⟩;subst hw;go_wp2_with fail;refine bodyPost_ret (v:=.tuple #[.agg #[.int .i64 0,.string {data:=#[]},.int .i64 0,.slice none 0 0,.slice none 0 0,.slice none 0 0],.int .i64 0,.int .i64 13]) (by simp[results,Tryz.results17,go_sem,x0,x1,x2,x3,x4,x5]) rfl ⟨_,by rw[hA.o,d.o],((((((n.o.setCell (Nat.le_refl _) _).setCell (Nat.le_refl _) _).setCell (Nat.le_refl _) _).setCell (Nat.le_refl _) _).setCell (Nat.le_refl _) _).setCell (Nat.le_refl _) _),⟨λh=>absurd (d.o.symm.trans h) x.o,λ_=>rfl⟩⟩
   ·have d:CQ s=0:=by rw[p.o,if_neg (by simp),if_neg ae]
    have aq:¬(200:Int)<(plQ q:Int):=by omega
    have t0:=Ot.c 0 _ rfl;have t1:=Ot.c 1 _ rfl;have ci:=K.ci;have r1:=K.o 1 (by omega);have r2:=K.o 2 (by omega);have r3:=K.o 3 (by omega);have k1:=K.c 1 (by omega);have k2:=K.c 2 (by omega);have k3:=K.c 3 (by omega);obtain⟨v1,u1,f1⟩:=Zc r1;obtain⟨v2,u2,f2⟩:=Zc r2;obtain⟨v3,u3,f3⟩:=Zc r3;have r1:N.ownsRow (b+1) 5 1 (W 1) q.vs.length (q.vs.map (Value.int .u8)):=r1;have r2:N.ownsRow (b+1) 5 1 (W 2) q.cd.length (q.cd.map (Value.int .u8)):=r2;have r3:N.ownsRow (b+1) 109 16 (W 3) q.ss.length (q.ss.flatMap BS):=r3;have f1:W 1=.slice v1 q.vs.length u1:=f1;have f2:W 2=.slice v2 q.cd.length u2:=f2;have f3:W 3=.slice v3 q.ss.length u3:=f3;have k1:N.cell? ⟨b,42,none⟩=some (.slice v1 q.vs.length u1):=by rw[<-f1];exact k1
    have k2:N.cell? ⟨b,43,none⟩=some (.slice v2 q.cd.length u2):=by rw[<-f2];exact k2
    have k3:N.cell? ⟨b,46,none⟩=some (.slice v3 q.ss.length u3):=by rw[<-f3];exact k3
    have F:∀w8:World,(∀k,k≠w.heap.size->w8.heap[k]?=N.heap[k]?)->PS w8 (w.heap.size+1) s (.agg #[.int .i64 ln,.string T,.int .i64 q.hi,.slice v3 q.ss.length u3,.slice v1 q.vs.length u1,.slice v2 q.cd.length u2]):=λw8 h8=>by unfold PS;rw[hT.o,i.o,ab.o];exact⟨W,by rw[f1,f2,f3],(ZQ (NT r1 (by omega)) λg hg=>h8 g (by have:=(r1.lt g hg).1;omega)),(ZQ (NT r2 (by omega)) λg hg=>h8 g (by have:=(r2.lt g hg).1;omega)),(ZQ (NT r3 (by omega)) λg hg=>h8 g (by have:=(r3.lt g hg).1;omega))⟩
    rw[J]at t1;have ay:b<N.heap.size:=K.lt;generalize plQ q=pl at *;generalize q.vs.length=vl at *;generalize q.cd.length=cl at *;generalize q.ss.length=sl at *;generalize q.hi=au at *;replace hP:=Z_ hP;replace n:=Z_ n;replace u:=Z_ u;replace F:=Z_ F;replace d:=Z_ d;have aA:Kp (ls=T):=⟨J⟩
    clear K C Ot p J M3 y r1 r2 r3 f1 f2 f3 R;go_wp2_with fail;rw[<-u.o];refine hP.o.mono ?_;rintro e w7 ⟨rfl,hw⟩;subst hw;go_wp2_with fail;refine bodyPost_ret (v:=.tuple #[.agg #[.int .i64 ln,.string T,.int .i64 au,.slice v3 sl u3,.slice v1 vl u1,.slice v2 cl u2],.int .i64 0,.int .i64 0]) (by simp[results,Tryz.results17,go_sem,x0,x1,x2,x3,x4,x5]) rfl ⟨_,by rw[hA.o,d.o],((((((n.o.setCell (Nat.le_refl _) _).setCell (Nat.le_refl _) _).setCell (Nat.le_refl _) _).setCell (Nat.le_refl _) _).setCell (Nat.le_refl _) _).setCell (Nat.le_refl _) _),⟨λ_=>F.o _ λk hk=>?_,λh=>absurd d.o h⟩⟩;rw[QH _ ⟨w.heap.size,5,none⟩ _ k hk,QH _ ⟨w.heap.size,4,none⟩ _ k hk,QH _ ⟨w.heap.size,3,none⟩ _ k hk,QH _ ⟨w.heap.size,2,none⟩ _ k hk,QH _ ⟨w.heap.size,1,none⟩ _ k hk,QH _ ⟨w.heap.size,0,none⟩ _ k hk]
  ·have d:Kp (CQ s=er):=⟨by rw[p.o,if_pos Q]⟩
   have x:Kp (¬er=0):=⟨Q⟩
   have an:(er != 0)=true:=QO.2 Q;replace n:=Z_ n;replace u:=Z_ u;have z0:(w5.alloc (.cells #[.int .i64 ln,.string ls] 54))=N:=u.o.symm;clear K C Ot p M3 y Q;go_wp2_with fail;refine bodyPost_ret (v:=.tuple #[.agg #[.int .i64 0,.string {data:=#[]},.int .i64 0,.slice none 0 0,.slice none 0 0,.slice none 0 0],.int .i64 0,.int .i64 er]) (by simp[results,Tryz.results17,go_sem,x0,x1,x2,x3,x4,x5]) rfl ⟨_,by rw[hA.o,d.o],((((((n.o.setCell (Nat.le_refl _) _).setCell (Nat.le_refl _) _).setCell (Nat.le_refl _) _).setCell (Nat.le_refl _) _).setCell (Nat.le_refl _) _).setCell (Nat.le_refl _) _),⟨λh=>absurd (d.o.symm.trans h) x.o,λ_=>rfl⟩⟩
 ·have l:¬300<s.size:=by omega
  have hA:Kp (EG s=q.r.a):=⟨by unfold EG;rw[if_neg l,i,if_pos z]⟩
  have d:Kp (CQ s=q.r.er):=⟨by unfold CQ;rw[if_neg l,i,if_pos z]⟩
  have x:Kp (¬q.r.er=0):=⟨z⟩
  have an:(q.r.er != 0)=true:=QO.2 z;have x0:=B.c 0 _ rfl;have x1:=B.c 1 _ rfl;have x2:=B.c 2 _ rfl;have x3:=B.c 3 _ rfl;have x4:=B.c 4 _ rfl;have x5:=B.c 5 _ rfl;have y0:=B.f 0 _ rfl;have y1:=B.f 1 _ rfl;have y2:=B.f 2 _ rfl;have y3:=B.f 3 _ rfl;have y4:=B.f 4 _ rfl;have y5:=B.f 5 _ rfl;have xl:=B.lt;obtain⟨ra,ao⟩:∃ra,q.r.a=ra:=⟨_,rfl⟩
  obtain⟨re,ap⟩:∃re,q.r.er=re:=⟨_,rfl⟩
  rw[ao]at hA c1;rw[ap]at d x an c2;replace D:=Z_ D;have az:b≠w.heap.size:=by omega
  clear U B hS i hE F3 y z l ao ap;go_wp2_with fail;go_region;all_goals
   go_wp2_with fail;refine bodyPost_ret (v:=.tuple #[.agg #[.int .i64 0,.string {data:=#[]},.int .i64 0,.slice none 0 0,.slice none 0 0,.slice none 0 0],.int .i64 ra,.int .i64 re]) (by simp[results,Tryz.results17,go_sem,x0,x1,x2,x3,x4,x5]) rfl ⟨_,by rw[hA.o,d.o],((((((D.o.setCell (Nat.le_refl _) _).setCell (Nat.le_refl _) _).setCell (Nat.le_refl _) _).setCell (Nat.le_refl _) _).setCell (Nat.le_refl _) _).setCell (Nat.le_refl _) _).drew,⟨λh=>absurd (d.o.symm.trans h) x.o,λ_=>rfl⟩⟩
theorem Kh(h:(Ai s).r.er=0):BU s=AB s:=by have a:=FK s;obtain⟨_,c,_,d,e,_⟩:=a.ok (by rw[<-a.r];exact h);unfold BU AB;rw[c,Zsw d e]
theorem ME:(AB s).size=(nP s).toNat*(nP s).toNat:=by unfold AB;rw[Zd,MD]
theorem Vw(h:(Ai s).r.er=0)(f:Az (AB s)=0):BX (AB s)=nP s:=by
 have e:=FK s;obtain⟨_,_,_,_,_,k,l,_⟩:=e.ok (by rw[<-e.r];exact h);have g:=Gk f;obtain⟨T,c,_,_⟩:=GK g.1;rw[Jh f];have a:=T.lo;have b:=T.hi;rw[ME]at c;generalize Ap (AB s)=x at *;obtain⟨m,i⟩:∃m:Nat,nP s=m:=⟨(nP s).toNat,by omega⟩
 rw[i]at c k l ⊢;simp only[QC]at c;have j:x=1∨x=2∨x=3∨x=4∨x=5∨x=6:=by omega
 have d:m=1∨m=2∨m=3∨m=4∨m=5∨m=6:=by omega
 rcases j with rfl|rfl|rfl|rfl|rfl|rfl<;>rcases d with rfl|rfl|rfl|rfl|rfl|rfl<;>omega
theorem Lb(s:ZB):CQ s=AH s∧EG s=Bf s:=by
 have d:=FK s;unfold CQ AH EG Bf;rw[<-d.r];by_cases e:300<s.size
 ·simp[e]
 ·by_cases c:(Ai s).r.er=0
  ·obtain⟨_,_,_,_,_,_,_,_,_,_,a⟩:=d.ok (by rw[<-d.r];exact c);rw[Kh c];have:plQ (Ai s)=(GE s).length/2:=by unfold plQ GE;rw[a]
   rw[this];exact⟨rfl,rfl⟩
  ·simp[e,c]
theorem UN(h:CQ s=0):bs (F9 (BX (BU s)) (BU s) (Ai s).vs (Ai s).cd)=AM s:=by
 have j:=FK s;have d:¬300<s.size:=λc=>by unfold CQ at h;rw[if_pos c]at h;omega
 have a:(Ai s).r.er=0:=by
  unfold CQ at h;rw[if_neg d]at h;by_cases c:(Ai s).r.er=0
  ·exact c
  ·rw[if_pos c]at h;exact absurd h c
 have f:Az (AB s)=0:=by
  unfold CQ at h;rw[if_neg d,if_neg (by rw[a];simp),Kh a]at h;by_cases c:Az (AB s)=0
  ·exact c
  ·rw[if_pos c]at h;exact absurd h c
 have e:¬200<plQ (Ai s):=λc=>by unfold CQ at h;rw[if_neg d,if_neg (by rw[a];simp),Kh a,if_neg (by rw[f];simp),if_pos c]at h;omega
 obtain⟨_,_,k,_,_,l,m,_,_,_,i⟩:=j.ok (by rw[<-j.r];exact a);have g:(Ai s).cd=GE s:=i;unfold plQ at e;rw[g]at e;unfold AM;rw[if_neg (by
  rintro(c|c|c|c)
  ·exact d c
  ·rw[<-j.r]at c;exact c a
  ·exact c f
  ·exact e c)]
 rw[ZsK,Kh a,Vw a f,g,k];unfold LW;rw[show nP s%256=nP s from by omega]
theorem Yh(h:CQ s≠0):AM s={data:=#[]}:=by
 have e:=(Lb s).1;rw[e]at h;unfold AH at h;unfold AM;rw[if_pos]
 ·rfl
 ·by_cases a:300<s.size
  ·exact .inl a
  ·rw[if_neg a]at h;by_cases c:(BF s).er≠0
   ·exact .inr (.inl c)
   ·rw[if_neg c]at h;by_cases d:Az (AB s)≠0
    ·exact .inr (.inr (.inl d))
    ·rw[if_neg d]at h;by_cases f:200<(GE s).length/2
     ·exact .inr (.inr (.inr f))
     ·rw[if_neg f]at h;exact absurd rfl h
theorem Ss(s:ZB)(w:World)(a:s.size<=maxLen):Calls prog 17 #[.string s] w (Ns s w):=by
 by_cases h:300<s.size
 ·exact Yg s w a h
 ·exact Wu s w (by omega)
theorem Oz(u:s.size<=300):AA s (Ai s)<=5000∧(Ai s).vs.length<=1000:=by
 have g:∀k (q:Tq),AA s q<=5000->AA s (Bp s k q)<=5000∧(Bp s k q).vs=q.vs:=by
  intro k;induction k with
  | zero=>intro q a;exact⟨CF (Zh _ _) a,rfl⟩
  | succ k d=>
   intro q a;simp only[Bp];split
   ·rename_i h;have y:=Z5 s (Aa s q.r);have t:=(FM s (s.size+2) (-1) {q with r:=Aa s q.r} ⟨Aa s q.r,q.n,q.ls,q.vs,[],[]⟩ ⟨rfl,rfl,rfl,rfl⟩ (by show Ah s (Aa s q.r)<_;omega)).1.fq.vs;have c:=d _ (Qg (GV s (s.size+2) (-1) {q with r:=Aa s q.r} (by show (Aa s q.r).er=0;rw[Zl];exact h.1)) (CF (Zh _ _) a));exact⟨c.1,c.2.trans t⟩
   ·exact⟨CF (Zh _ _) a,rfl⟩
 have x:∀k (q:Tq),AA s q<=5000->AA s (BR s k q)<=5000∧(BR s k q).vs=q.vs:=by
  intro k;induction k with
  | zero=>intro q a;exact⟨CF (Zh _ _) a,rfl⟩
  | succ k d=>
   intro q a;simp only[BR];split
   ·have c:=d (Cc {q with r:=An s (An s (Aa s q.r) 0 (q.n-1)) 0 (q.n-1)} (AW s (Aa s q.r) 0 (q.n-1)) (AW s (An s (Aa s q.r) 0 (q.n-1)) 0 (q.n-1))) (Qg (D7 (q:=q) (Qg (Z7 _ _ _ _) (Qg (Z7 _ _ _ _) (Zh _ _)))) a);exact c
   ·exact⟨CF (Zh _ _) a,rfl⟩
 have v:∀k (q:Tq),AA s q<=5000->AA s (BE s k q)<=5000∧(BE s k q).vs.length<=q.vs.length+k:=by
  intro k;induction k with
  | zero=>intro q a;exact⟨CF (Zh _ _) a,Qb _⟩
  | succ k d=>
   intro q a;simp only[BE];split
   ·have c:=d (BI s {q with r:=Aa s q.r}) (Qg UM (CF (Zh _ _) a));have e:(BI s {q with r:=Aa s q.r}).vs.length<=q.vs.length+1:=by
     unfold BI;split
     ·exact Nat.le_succ _
     ·split
      ·exact Nat.le_succ _
      ·show (q.vs++_).length<=_;rw[Qe];exact Qb _
    exact⟨c.1,by omega⟩
   ·exact⟨CF (Zh _ _) a,Nat.le_add_right _ _⟩
 have o:AA s {Ak with r:=An s Ak.r 1 6,n:=AW s Ak.r 1 6,pn:=AW s Ak.r 1 6,pr:=λi j=>decide (i=j)}<=5000:=by have f:=Sr u;have c:=Z7 s Ak.r 1 6;have e:=CH s Ak;have l:AA s {Ak with r:=An s Ak.r 1 6,n:=AW s Ak.r 1 6,pn:=AW s Ak.r 1 6,pr:=λi j=>decide (i=j)}=Ak.cd.length+Ak.ss.length+Bm s (An s Ak.r 1 6):=CH _ _;omega
 have f:=x (s.size+1) _ o;have c:=v (s.size+1) {BR s (s.size+1) {Ak with r:=An s Ak.r 1 6,n:=AW s Ak.r 1 6,pn:=AW s Ak.r 1 6,pr:=λi j=>decide (i=j)} with r:=tk s (BR s (s.size+1) {Ak with r:=An s Ak.r 1 6,n:=AW s Ak.r 1 6,pn:=AW s Ak.r 1 6,pr:=λi j=>decide (i=j)}).r 46} (CF (ZT _ _ _) f.1);have e:=g (s.size+1) (Br s Ak) (CF (ZT _ _ _) c.1);have l:(Ai s)=Bp s (s.size+1) (Br s Ak):=rfl;rw[l];constructor
 ·exact e.1
 ·rw[e.2];have m:=c.2;have p:({BR s (s.size+1) {Ak with r:=An s Ak.r 1 6,n:=AW s Ak.r 1 6,pn:=AW s Ak.r 1 6,pr:=λi j=>decide (i=j)} with r:=tk s (BR s (s.size+1) {Ak with r:=An s Ak.r 1 6,n:=AW s Ak.r 1 6,pn:=AW s Ak.r 1 6,pr:=λi j=>decide (i=j)}).r 46}:Tq).vs=[]:=f.2;rw[p]at m;refine Qg m ?_;show 0+(s.size+1)<=1000;omega
theorem IX(a:s.size<=300):(Ai s).cd.length<=5000∧(Ai s).vs.length<=1000:=⟨by have:=(Oz a).1;unfold AA at this;omega,(Oz a).2⟩
theorem ZrC(a:s.size<=300):(Ai s).cd.length<=100000∧(Ai s).vs.length<=1000:=⟨Qg (IX a).1 (by omega),(IX a).2⟩
theorem TI(n h:Int)(T:ZB)(l m v:Option Addr)(u1 u2 u3 u:Nat)(vs a:List Int)(B:Nat)(w:World)(r:w.ownsRow B 5 1 (.slice l vs.length u1) vs.length (vs.map (Value.int .u8)))(p:w.ownsRow B 5 1 (.slice m a.length u2) a.length (a.map (Value.int .u8)))(x:T.size<=100)(k:vs.length<=1000)(j:a.length<=100000) :
  Calls prog 19 #[.agg #[.int .i64 n,.string T,.int .i64 h,.slice v u u3,.slice l vs.length u1,.slice m a.length u2]] w λe z=>e=.returned (.string (bs (F9 n T vs a)))∧Below w.heap.size w z:=by
 obtain⟨g,c⟩:∃g,g=w.alloc (.cells #[.int .i64 n,.string T,.int .i64 h,.slice v u u3,.slice l vs.length u1,.slice m a.length u2] 58):=⟨_,rfl⟩
 have d:Below w.heap.size w g:=by rw[c];exact(Qh _ _).alloc (Qb _) _
 have f:=Yf n T _ _ vs a B g (Zo r d) (Zo p d) x k j;obtain⟨y,t⟩:∃y,bs (F9 n T vs a)=y:=⟨_,rfl⟩
 rw[t]at f ⊢;generalize vs.length=C at *;generalize a.length=A at *;replace f:=Z_ f;replace c:=Z_ c;replace d:=Z_ d;clear r p t;go_in;go_wp2_with fail;rw[<-c.o];refine f.o.mono ?_;rintro e D ⟨rfl,i⟩;replace i:=Z_ i;go_wp2;go_ret;exact⟨rfl,d.o.trans (i.o.mono d.o.size)⟩
theorem Qm(s:ZB)(w:World)(Y:s.size<=maxLen) :
  Calls prog 13 #[.string s] w λe y=>e=.returned (.tuple #[.string (AM s),.int .i64 (Bf s),.int .i64 (AH s)])∧Below w.heap.size w y:=by
 have j:=Ss s w Y;rw[<-(Lb s).1,<-(Lb s).2];by_cases a:CQ s=0
 ·have k:s.size<=300:=Nat.le_of_not_lt λc=>by unfold CQ at a;rw[if_pos c]at a;omega
  have i:=ZrC k;have hF:=UN a;have E:EG s=0:=by
   have e:=a;unfold CQ at e;unfold EG;rw[if_neg (by omega)]at e ⊢;by_cases c:(Ai s).r.er=0
   ·rw[if_neg (by rw[c];simp)]
   ·rw[if_pos c]at e;exact absurd e c
  rw[a,E];have H:(BU s).size<=100:=by
   have L:=FK s;have l:(Ai s).r.er=0:=by
    unfold CQ at a;rw[if_neg (by omega)]at a;by_cases c:(Ai s).r.er=0
    ·exact c
    ·rw[if_pos c]at a;exact absurd a c
   obtain⟨_,_,_,_,_,n1,n6,_⟩:=L.ok (by rw[<-L.r];exact l);rw[Kh l,ME];have:=Us (show (nP s).toNat<=6 by omega) (show (nP s).toNat<=6 by omega);omega
  replace j:=Z_ j;go_in;go_wp2_with fail;refine j.o.mono ?_;rintro e z ⟨D,rfl,d,p⟩;obtain⟨S,rfl,u,x,U⟩:=p.o.1 a;obtain⟨P,M,B⟩:=Zc u;obtain⟨Q,N,C⟩:=Zc x;obtain⟨R,O,K⟩:=Zc U;rw[B,C,K,a,E];rw[B]at u;rw[C]at x;obtain⟨m,f⟩:∃m,m=z.alloc (.cells #[.int .i64 (BX (BU s)),.string (BU s),.int .i64 (Ai s).hi,.slice R (Ai s).ss.length O,.slice P (Ai s).vs.length M,.slice Q (Ai s).cd.length N] 58):=⟨_,rfl⟩
  have n:Below z.heap.size z m:=by rw[f];exact(Qh _ _).alloc (Qb _) _
  have t:=TI (BX (BU s)) (Ai s).hi (BU s) P Q R M N O (Ai s).ss.length (Ai s).vs (Ai s).cd (w.heap.size+1) m (Zo u n) (Zo x n) H i.2 i.1;rw[hF]at t;have J:Kp (Below w.heap.size w m):=⟨d.trans (n.mono d.size)⟩
  generalize (Ai s).vs.length=vl at *;generalize (Ai s).cd.length=Z at *;generalize (Ai s).ss.length=sl at *;generalize (Ai s).hi=hi at *;generalize BX (BU s)=ln at *;generalize BU s=T at *;generalize g:AM s=F at *;replace g:=Z_ g;replace t:=Z_ t;replace f:=Z_ f;clear u x U B C K p d n hF j a E i;go_wp2_with fail;rw[<-f.o];refine t.o.mono ?_;rintro e w3 ⟨rfl,A⟩;replace A:=Z_ A;go_wp2_with fail;refine bodyPost_ret (v:=.tuple #[.string F,.int .i64 0,.int .i64 0]) (by simp[results,Tryz.results13,go_sem]) rfl ⟨by rw[g.o],J.o.trans (A.o.mono J.o.size)⟩
 ·rw[Yh a];have X:(CQ s != 0)=true:=QO.2 a;have G:Kp (Calls prog 17 #[.string s] w λe y=>e=.returned (.tuple #[.agg #[.int .i64 0,.string {data:=#[]},.int .i64 0,.slice none 0 0,.slice none 0 0,.slice none 0 0],.int .i64 (EG s),.int .i64 (CQ s)])∧Below w.heap.size w y):=⟨j.mono λe y h=>by
   obtain⟨D,rfl,d,p⟩:=h;rw[p.o.2 a];exact⟨rfl,d⟩⟩
  clear j a;generalize CQ s=W at *;generalize EG s=V at *;go_in;go_wp2_with fail;refine G.o.mono ?_;rintro e z ⟨rfl,d⟩;have I:=d.size;replace d:=Z_ d;go_wp2_with fail;refine bodyPost_ret (v:=.tuple #[.string {data:=#[]},.int .i64 V,.int .i64 W]) (by simp[results,Tryz.results13,go_sem]) rfl ⟨rfl,d.o.alloc I _⟩
end Go.Proofs.YtcnbifdlkalimabGreat
