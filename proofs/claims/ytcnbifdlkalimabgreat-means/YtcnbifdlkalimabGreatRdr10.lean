/- Lemmas for the statement Means; their conditions stand in each. -/
import Derived.Test.YtcnbifdlkalimabGreatRdrM
import Derived.Test.YtcnbifdlkalimabGreatTrnE
namespace Go.Proofs.YtcnbifdlkalimabGreat
open Go.RowKit Go.Proofs.Tryz
set_option linter.unusedVariables false
set_option maxRecDepth 100000
theorem Zqf:(prog.info? 121).map (λi=>(i.zero,i.size,i.bytes))=some (some (.agg #[.int .i64 0,.int .i64 0,.int .i64 0,.int .i64 0]),4,32):=by kernel_rfl
theorem own4(w:World)(x:Ex)(t:TypeId):Own (w.alloc (.cells #[.int .i64 x.op,.int .i64 x.v,.int .i64 x.l,.int .i64 x.r] t)) w.heap.size (exV x):=by
 refine⟨by simp,?_,?_⟩
 ·intro i v hv
  have hi:i<4:=by have:=(List.getElem?_eq_some_iff.1 hv).1;simpa [exV] using this
  have e:(w.alloc (.cells #[.int .i64 x.op,.int .i64 x.v,.int .i64 x.l,.int .i64 x.r] t)).cell? ⟨w.heap.size,i,none⟩=(exV x)[i]?:=by
   match i,hi with
   | 0,_=>simp[go_sem,exV]
   | 1,_=>simp[go_sem,exV]
   | 2,_=>simp[go_sem,exV]
   | 3,_=>simp[go_sem,exV]
  rw[e]
  exact hv
 ·intro i v hv
  have hi:i<4:=by have:=(List.getElem?_eq_some_iff.1 hv).1;simpa [exV] using this
  match i,hi with
  | 0,_=>simp[go_sem]
  | 1,_=>simp[go_sem]
  | 2,_=>simp[go_sem]
  | 3,_=>simp[go_sem]
def Zcs(rb sb B:Nat)(s tb:ZB)(tp:Value)(S:Nat->Value)(sv:List (Value×Value))(w:World)(z:Rs×Nat)(e:Ending)(w':World):Prop:=
 e=.returned (.int .i64 (z.2:Nat))∧∃S',Zx w' rb sb B s z.1 tb tp S' sv∧ZW rb sb S S' w w'
set_option maxHeartbeats 6400000
theorem ZdF(rb sb B:Nat)(s tb:ZB)(tp:Value)(p:Rs)(S:Nat->Value)(sv:List (Value×Value))(x:Ex)(w:World)(H:Zx w rb sb B s p tb tp S sv)(hl:p.ex.length<=10000) :
  Calls prog 225 #[.pointer (some ⟨rb,0,none⟩),.agg #[.int .i64 x.op,.int .i64 x.v,.int .i64 x.l,.int .i64 x.r]] w (Zcs rb sb B s tb tp S sv w (nodP p p.r x)):=by
 have c:w.cell? ⟨sb,4,none⟩=some (S 0):=H.c 0 (by omega)
 have c3:=H.c3
 have hlt:=H.lt
 have hltr:=H.rd.lt
 have hb1:=H.b1
 have hb0:=H.b0
 have hBs:=H.hB
 obtain⟨i0,hi0,hz0,hz1,hz2⟩:=infoParts Zqf
 have hrow:w.ownsRow B 121 4 (S 0) p.ex.length (p.ex.flatMap exV):=H.o 0 (by omega)
 have hnb:some sb≠(S 0).ownBlock:=λe=>by have:=(hrow.lt _ e.symm).1;omega
 have hnr:some rb≠(S 0).ownBlock:=λe=>by have:=(hrow.lt _ e.symm).1;omega
 obtain⟨wa,hwa⟩:∃wa,wa=w.alloc (.cells #[.int .i64 x.op,.int .i64 x.v,.int .i64 x.l,.int .i64 x.r] 121):=⟨_,rfl⟩
 obtain⟨wb,hwb⟩:∃wb,wb=wa.alloc (.cells #[.int .i64 x.op,.int .i64 x.v,.int .i64 x.l,.int .i64 x.r] 121):=⟨_,rfl⟩
 have O1:Own wa w.heap.size (exV x):=by rw[hwa];exact own4 w x _
 have O2:Own wb.drew wa.heap.size (exV x):=by
  have:=own4 wa x 121
  rw[<-hwb]at this
  exact this.step ((Qh _ _).drew)
 have bel1:Below w.heap.size w wb.drew:=by
  rw[hwb,hwa]
  exact(((Qh _ _).alloc (Qb _) _).alloc (by simp) _).drew
 have hsz:wb.drew.heap.size=w.heap.size+2:=by rw[hwb,hwa];simp
 have d0:=O1.c 0 _ rfl
 have d1:=O1.c 1 _ rfl
 have d2:=O1.c 2 _ rfl
 have d3:=O1.c 3 _ rfl
 have ca:wa.cell? ⟨sb,4,none⟩=some (S 0):=by rw[hwa,((Qh _ w).alloc (Qb _) _).cell (p:=⟨sb,4,none⟩) hlt];exact c
 have c3a:wa.cell? ⟨rb,3,none⟩=some (.pointer (some ⟨sb,0,none⟩)):=by rw[hwa,((Qh _ w).alloc (Qb _) _).cell (p:=⟨rb,3,none⟩) hltr];exact c3
 have hlt2:sb<wa.heap.size:=by rw[hwa];simp;omega
 have hlt2r:rb<wa.heap.size:=by rw[hwa];simp;omega
 have hlt3:w.heap.size<wa.heap.size:=by rw[hwa];simp
 have H':Kp _:=⟨H⟩
 replace hrow:=Z_ hrow
 replace hnb:=Z_ hnb
 replace hnr:=Z_ hnr
 replace O2:=Z_ O2
 replace bel1:=Z_ bel1
 replace hsz:=Z_ hsz
 replace hwa:=Z_ hwa
 replace hwb:=Z_ hwb
 replace hb0:=Z_ hb0
 replace hb1:=Z_ hb1
 have K4:Kp (B<=wb.drew.heap.size):=⟨by rw[hsz.out];omega⟩
 clear H O1 c c3 hBs
 have K1:Kp (wb.drew.ownsRow B 121 4 (S 0) p.ex.length (p.ex.flatMap exV)):=⟨Zq hrow.out bel1.out⟩
 have K2:Kp (∀j u,(exV x)[j]?=some u->wb.drew.cell? ((⟨wa.heap.size,0,none⟩:Addr).add j)=some u):=⟨λj u hj=>by
  have:=O2.out.c j u hj
  rcases Q0 j with h0|h0
  ·subst h0;simpa [Addr.add] using this
  ·have h1:¬j=0:=by omega
   simpa [Addr.add,h1] using this⟩
 have K3:Kp (∀u,u∈exV x->u.oneCell'=true):=⟨λu hu=>by
  unfold exV at hu
  simp only[Uc,QV,or_false]at hu
  rcases hu with rfl|rfl|rfl|rfl<;>rfl⟩
 have K5:Kp (wb.drew.cell? ⟨sb,4,none⟩=some (S 0)∧wb.drew.frozen? ⟨sb,4,none⟩=false∧wb.drew.cell? ⟨rb,3,none⟩=some (.pointer (some ⟨sb,0,none⟩))):=⟨by rw[bel1.out.cell (p:=⟨sb,4,none⟩) hlt];exact H'.out.c 0 (by omega),by rw[bel1.out.frozen (p:=⟨sb,4,none⟩) hlt];exact H'.out.f 4 (by omega),by rw[bel1.out.cell (p:=⟨rb,3,none⟩) hltr];exact H'.out.c3⟩
 go_enter func225,ntmps225
 go_wp2_with fail
 rw[<-hwa.out]
 go_region_law (rw[<-hwb.out];refine Zo rfl (.tmp 15) (.tmp 17) 67 rfl B 121 i0 _ 4 32 Tryz.underlying67 hi0 hz0 hz1 hz2 rfl (by decide) (S 0) p.ex.length (p.ex.flatMap exV) (by simp[Act.eval]) K1.out ⟨wa.heap.size,0,none⟩ (exV x) (by simp[Act.eval]) rfl K2.out K3.out (by unfold maxLen;omega) (by omega) K4.out ?_;intro v' w3 hown hgrow hat;obtain⟨pp,cc,rfl⟩:=Zb hown;have a1:w3.cell? ⟨sb,4,none⟩=some (S 0):=(by rw[World.cell?_of_block (w:=wb.drew) (hgrow.block sb (by rw[hsz.out];omega) hnb.out)];exact K5.out.1);have f1:w3.frozen? ⟨sb,4,none⟩=false:=(by rw[World.frozen?_of_block (w:=wb.drew) (hgrow.block sb (by rw[hsz.out];omega) hnb.out)];exact K5.out.2.1);have a3:w3.cell? ⟨rb,3,none⟩=some (.pointer (some ⟨sb,0,none⟩)):=(by rw[World.cell?_of_block (w:=wb.drew) (hgrow.block rb (by rw[hsz.out];omega) hnr.out)];exact K5.out.2.2))
 all_goals
  have hR:Zx (w3.setCell ⟨sb,4,none⟩ (.slice pp (p.ex.length+1) cc)) rb sb B s (nodP p p.r x).1 tb tp (λj=>if j=0 then .slice pp (p.ex.length+1) cc else S j) sv∧ZW rb sb S (λj=>if j=0 then .slice pp (p.ex.length+1) cc else S j) w (w3.setCell ⟨sb,4,none⟩ (.slice pp (p.ex.length+1) cc)):=
   Zx.told (l:=0) (p':=(nodP p p.r x).1) (sv':=sv) H'.out (by omega) bel1.out hgrow (by
    have e1:pN (nodP p p.r x).1 0=p.ex.length+1:=by show (p.ex++[x]).length=_;rw[Qe];rfl
    have e2:pV (nodP p p.r x).1 sv 0=p.ex.flatMap exV++exV x:=by show (p.ex++[x]).flatMap exV=_;rw[List.flatMap_append];simp
    rw[e1,e2]
    exact hown) hat rfl rfl rfl rfl (λj hj hne=>by
     match j,hj with
     | 0,_=>exact absurd rfl hne
     | 1,_=>rfl) (λj hj hne=>by
     match j,hj with
     | 0,_=>exact absurd rfl hne
     | 1,_=>rfl) H'.out.k H'.out.i
  have a2:(w3.setCell ⟨sb,4,none⟩ (.slice pp (p.ex.length+1) cc)).cell? ⟨sb,4,none⟩=some (.slice pp (p.ex.length+1) cc):=Qk _ _ _ a1
  have a4:(w3.setCell ⟨sb,4,none⟩ (.slice pp (p.ex.length+1) cc)).cell? ⟨rb,3,none⟩=some (.pointer (some ⟨sb,0,none⟩)):=hR.1.c3
  have e0:Kp ((nodP p p.r x).2=p.ex.length):=⟨rfl⟩
  replace hR:=Z_ hR
  clear hown hgrow hat a1 a3 f1 K1 K2 K3 K4 K5 d0 d1 d2 d3 ca c3a hrow
  generalize nodP p p.r x=y at *
  generalize hn:p.ex.length=n at *
  replace hn:=Z_ hn
  go_wp2
  go_ret
  exact⟨by rw[e0.out];simp,_,hR.out.1,hR.out.2⟩
end Go.Proofs.YtcnbifdlkalimabGreat
