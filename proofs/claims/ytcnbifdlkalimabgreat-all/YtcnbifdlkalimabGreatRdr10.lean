/- Lemmas; their conditions stand in each. -/
import Derived.Test.YtcnbifdlkalimabGreatRdrM
namespace Go.Proofs.YtcnbifdlkalimabGreat
open Go.RowKit Go.Proofs.Tryz
set_option linter.all false
set_option maxRecDepth 100000
theorem Zq4:(prog.info? 121).map (λi=>(i.zero,i.size,i.bytes))=some (some (.agg #[.int .i64 0,.int .i64 0,.int .i64 0,.int .i64 0]),4,32):=by kernel_rfl
theorem Ml(w:World)(x:Ex)(t:TypeId):AF (w.alloc (.cells #[.int .i64 x.op,.int .i64 x.v,.int .i64 x.l,.int .i64 x.r] t)) w.heap.size (Do x):=by
 refine⟨by simp,?_,?_⟩
 ·intro i v a;have b:i<4:=by have:=(List.getElem?_eq_some_iff.1 a).1;simpa [Do] using this
  have e:(w.alloc (.cells #[.int .i64 x.op,.int .i64 x.v,.int .i64 x.l,.int .i64 x.r] t)).cell? ⟨w.heap.size,i,none⟩=(Do x)[i]?:=by
   match i,b with
   | 0,_=>simp[go_sem,Do]
   | 1,_=>simp[go_sem,Do]
   | 2,_=>simp[go_sem,Do]
   | 3,_=>simp[go_sem,Do]
  rw[e];exact a
 ·intro i v a;have b:i<4:=by have:=(List.getElem?_eq_some_iff.1 a).1;simpa [Do] using this
  match i,b with
  | 0,_=>simp[go_sem]
  | 1,_=>simp[go_sem]
  | 2,_=>simp[go_sem]
  | 3,_=>simp[go_sem]
def Ef(rb sb B:Nat)(s tb:ZB)(tp:Value)(S:Nat->Value)(sv:List (Value×Value))(w:World)(z:Rs×Nat)(e:Ending)(w':World):Prop:=
 e=.returned (.int .i64 (z.2:Nat))∧∃S',YB w' rb sb B s z.1 tb tp S' sv∧ZW rb sb S S' w w'
set_option maxHeartbeats 6400000
theorem MJ(rb sb B:Nat)(s tb:ZB)(tp:Value)(p:Rs)(S:Nat->Value)(sv:List (Value×Value))(x:Ex)(w:World)(H:YB w rb sb B s p tb tp S sv)(hl:p.ex.length<=10000) :
  Calls prog 225 #[.pointer (some ⟨rb,0,none⟩),.agg #[.int .i64 x.op,.int .i64 x.v,.int .i64 x.l,.int .i64 x.r]] w (Ef rb sb B s tb tp S sv w (Cl p p.r x)):=by
 have c:w.cell? ⟨sb,4,none⟩=some (S 0):=H.c 0 (by omega);have c3:=H.c3;have E:=H.lt;have C:=H.rd.lt;have P:=H.b1;have O:=H.b0;have V:=H.hB;obtain⟨i0,W,Z,aa,ab⟩:=AX Zq4;have g:w.ownsRow B 121 4 (S 0) p.ex.length (p.ex.flatMap Do):=H.o 0 (by omega);have A:some sb≠(S 0).ownBlock:=λe=>by have:=(g.lt _ e.symm).1;omega
 have G:some rb≠(S 0).ownBlock:=λe=>by have:=(g.lt _ e.symm).1;omega
 obtain⟨t,d⟩:∃t,t=w.alloc (.cells #[.int .i64 x.op,.int .i64 x.v,.int .i64 x.l,.int .i64 x.r] 121):=⟨_,rfl⟩
 obtain⟨h,q⟩:∃h,h=t.alloc (.cells #[.int .i64 x.op,.int .i64 x.v,.int .i64 x.l,.int .i64 x.r] 121):=⟨_,rfl⟩
 have L:AF t w.heap.size (Do x):=by rw[d];exact Ml w x _
 have T:AF h.drew t.heap.size (Do x):=by have:=Ml t x 121;rw[<-q]at this;exact this.step ((Qh _ _).drew)
 have a:Below w.heap.size w h.drew:=by rw[q,d];exact(((Qh _ _).alloc (Qb _) _).alloc (by simp) _).drew
 have m:h.drew.heap.size=w.heap.size+2:=by rw[q,d];simp
 have d0:=L.c 0 _ rfl;have d1:=L.c 1 _ rfl;have d2:=L.c 2 _ rfl;have d3:=L.c 3 _ rfl;have ca:t.cell? ⟨sb,4,none⟩=some (S 0):=by rw[d,((Qh _ w).alloc (Qb _) _).cell (p:=⟨sb,4,none⟩) E];exact c
 have U:t.cell? ⟨rb,3,none⟩=some (.pointer (some ⟨sb,0,none⟩)):=by rw[d,((Qh _ w).alloc (Qb _) _).cell (p:=⟨rb,3,none⟩) C];exact c3
 have ad:sb<t.heap.size:=by rw[d];simp;omega
 have X:rb<t.heap.size:=by rw[d];simp;omega
 have ae:w.heap.size<t.heap.size:=by rw[d];simp
 have K:Kp _:=⟨H⟩
 replace g:=Z_ g;replace A:=Z_ A;replace G:=Z_ G;replace T:=Z_ T;replace a:=Z_ a;replace m:=Z_ m;replace d:=Z_ d;replace q:=Z_ q;replace O:=Z_ O;replace P:=Z_ P;have K4:Kp (B<=h.drew.heap.size):=⟨by rw[m.o];omega⟩
 clear H L c c3 V;have K1:Kp (h.drew.ownsRow B 121 4 (S 0) p.ex.length (p.ex.flatMap Do)):=⟨Zo g.o a.o⟩
 have K2:Kp (∀j u,(Do x)[j]?=some u->h.drew.cell? ((⟨t.heap.size,0,none⟩:Addr).add j)=some u):=⟨λj u Q=>by
  have:=T.o.c j u Q;rcases Q0 j with h0|h0
  ·subst h0;simpa [Addr.add] using this
  ·have h1:¬j=0:=by omega
   simpa [Addr.add,h1] using this⟩
 have K3:Kp (∀u,u∈Do x->u.oneCell'=true):=⟨λu Y=>by
  unfold Do at Y;simp only[Uc,QV,or_false]at Y;rcases Y with rfl|rfl|rfl|rfl<;>rfl⟩
 have R:Kp (h.drew.cell? ⟨sb,4,none⟩=some (S 0)∧h.drew.frozen? ⟨sb,4,none⟩=false∧h.drew.cell? ⟨rb,3,none⟩=some (.pointer (some ⟨sb,0,none⟩))):=⟨by rw[a.o.cell (p:=⟨sb,4,none⟩) E];exact K.o.c 0 (by omega),by rw[a.o.frozen (p:=⟨sb,4,none⟩) E];exact K.o.f 4 (by omega),by rw[a.o.cell (p:=⟨rb,3,none⟩) C];exact K.o.c3⟩
 go_in;go_wp2_with fail;rw[<-d.o];go_region_law (rw[<-q.o];refine Zr rfl (.tmp 15) (.tmp 17) 67 rfl B 121 i0 _ 4 32 Tryz.underlying67 W Z aa ab rfl (by decide) (S 0) p.ex.length (p.ex.flatMap Do) (by simp[Act.eval]) K1.o ⟨t.heap.size,0,none⟩ (Do x) (by simp[Act.eval]) rfl K2.o K3.o (by unfold maxLen;omega) (by omega) K4.o ?_;intro v' J z b N;obtain⟨I,D,rfl⟩:=Zc z;have a1:J.cell? ⟨sb,4,none⟩=some (S 0):=(by rw[World.cell?_of_block (w:=h.drew) (b.block sb (by rw[m.o];omega) A.o)];exact R.o.1);have f1:J.frozen? ⟨sb,4,none⟩=false:=(by rw[World.frozen?_of_block (w:=h.drew) (b.block sb (by rw[m.o];omega) A.o)];exact R.o.2.1);have a3:J.cell? ⟨rb,3,none⟩=some (.pointer (some ⟨sb,0,none⟩)):=(by rw[World.cell?_of_block (w:=h.drew) (b.block rb (by rw[m.o];omega) G.o)];exact R.o.2.2));all_goals
  have M:YB (J.setCell ⟨sb,4,none⟩ (.slice I (p.ex.length+1) D)) rb sb B s (Cl p p.r x).1 tb tp (λj=>if j=0 then .slice I (p.ex.length+1) D else S j) sv∧ZW rb sb S (λj=>if j=0 then .slice I (p.ex.length+1) D else S j) w (J.setCell ⟨sb,4,none⟩ (.slice I (p.ex.length+1) D)):=
   YB.told (l:=0) (p':=(Cl p p.r x).1) (sv':=sv) K.o (by omega) a.o b (by
    have e1:pN (Cl p p.r x).1 0=p.ex.length+1:=by show (p.ex++[x]).length=_;rw[Qe];rfl
    have e2:pV (Cl p p.r x).1 sv 0=p.ex.flatMap Do++Do x:=by show (p.ex++[x]).flatMap Do=_;rw[List.flatMap_append];simp
    rw[e1,e2];exact z) N rfl rfl rfl rfl (λj Q F=>by
     match j,Q with
     | 0,_=>exact absurd rfl F
     | 1,_=>rfl) (λj Q F=>by
     match j,Q with
     | 0,_=>exact absurd rfl F
     | 1,_=>rfl) K.o.k K.o.i
  have a2:(J.setCell ⟨sb,4,none⟩ (.slice I (p.ex.length+1) D)).cell? ⟨sb,4,none⟩=some (.slice I (p.ex.length+1) D):=Qk _ _ _ a1;have a4:(J.setCell ⟨sb,4,none⟩ (.slice I (p.ex.length+1) D)).cell? ⟨rb,3,none⟩=some (.pointer (some ⟨sb,0,none⟩)):=M.1.c3;have e0:Kp ((Cl p p.r x).2=p.ex.length):=⟨rfl⟩
  replace M:=Z_ M;clear z b N a1 a3 f1 K1 K2 K3 K4 R d0 d1 d2 d3 ca U g;generalize Cl p p.r x=y at *;generalize hn:p.ex.length=n at *;replace hn:=Z_ hn;go_wp2;go_ret;exact⟨by rw[e0.o];simp,_,M.o.1,M.o.2⟩
end Go.Proofs.YtcnbifdlkalimabGreat
