/- Lemmas for the statement Means; their conditions stand in each. -/
import Derived.Test.YtcnbifdlkalimabGreatPrgM
import Derived.Deep.RegionWith
namespace Go.Proofs.YtcnbifdlkalimabGreat
open Go.RowKit Go.Proofs.Tryz
set_option linter.unusedVariables false
set_option maxHeartbeats 6400000
theorem ZoF(n:Int)(t v c:ZB)(w:World)(hc:c.size<=maxLen)(hv:v.size<=maxLen) :
  Calls prog 136 #[.agg #[.int .i64 n,.string t,.string v,.string c]] w λe w'=>e=.returned (.agg #[.int .i64 n,.int .i64 v.size,.int .i64 (half c)])∧Below w.heap.size w w':=by
 have hmx:v.size<=maxLen:=hv
 unfold maxLen at hmx
 go_enter func136,ntmps136
 go_wp2_with fail
 go_region_with (go_at_call 68;refine(ZT n t v c _ hc).mono ?_;rintro e w1 ⟨rfl,hb1⟩;obtain⟨hcc,hff⟩:=bcell hb1;have hz:w.heap.size+1<w1.heap.size:=(by have:=hb1.size;simp at this;omega))
 all_goals
  have q0:w1.cell? ⟨w.heap.size+1,0,none⟩=some (.int .i64 0):=by rw[hb1.cell (p:=⟨w.heap.size+1,0,none⟩) (by simp)];simp[go_sem]
  have q1:w1.cell? ⟨w.heap.size+1,1,none⟩=some (.int .i64 0):=by rw[hb1.cell (p:=⟨w.heap.size+1,1,none⟩) (by simp)];simp[go_sem]
  have q2:w1.cell? ⟨w.heap.size+1,2,none⟩=some (.int .i64 0):=by rw[hb1.cell (p:=⟨w.heap.size+1,2,none⟩) (by simp)];simp[go_sem]
  have b1:Below w.heap.size w w1:=(((Qh _ _).alloc (Qb _) _).alloc (by simp) _).drew.trans (hb1.mono (by simp;omega))
  go_wp2
  exact bodyPost_ret (v:=.agg #[.int .i64 n,.int .i64 v.size,.int .i64 (half c)]) (by simp[results,Tryz.results136,go_sem,q0,q1,q2]) rfl ⟨rfl,((b1.setCell (by simp) _).setCell (by simp) _).setCell (by simp) _⟩
end Go.Proofs.YtcnbifdlkalimabGreat
