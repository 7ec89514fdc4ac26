/-
  The walks of the package paths: what is followed, up to a barrier; for every file whose places are places.
-/
import Derived.Test.YtcnbifdlkalimaaWay2
import Derived.Test.YtcnbifdlkalimaaPlain11
import Derived.Laws.IdiomCopy
import Derived.Deep.WholeRow
namespace Go.Proofs.Ytcnbifdlkalimaa
open Go.RowKit
set_option linter.unusedVariables false
set_option maxRecDepth 100000

theorem nx_in {c : ByteArray} (hr : Ranged c) {k : Int} (h0 : 0 ≤ k) (hk : k ≤ half c) : (0 ≤ nx1 c k ∧ nx1 c k ≤ half c) ∧ (0 ≤ nx2 c k ∧ nx2 c k ≤ half c) := by
  by_cases e : k = half c
  · have h1 : nx1 c k = half c := if_pos e
    have h2 : nx2 c k = half c := if_pos e
    omega
  · have hlt : k < half c := by omega
    exact ⟨hr k _ ⟨h0, hlt, (mem_nxt hlt).2 (.inl rfl)⟩, hr k _ ⟨h0, hlt, (mem_nxt hlt).2 (.inr rfl)⟩⟩

theorem nx_set {c : ByteArray} {p : Nat} (hp : (p : Int) ≤ half c) : (∀ x, (x = nx1 c p ∨ x = nx2 c p) → ((p : Int) < half c ∧ x ∈ nxt c p) ∨ x = p) ∧ ((p : Int) < half c → ∀ x, x ∈ nxt c p → (x = nx1 c p ∨ x = nx2 c p)) := by
  constructor
  · intro x hx
    by_cases e : (p : Int) = half c
    · have h1 : nx1 c p = half c := if_pos e
      have h2 : nx2 c p = half c := if_pos e
      rw [h1, h2] at hx
      exact .inr (by omega)
    · have hlt : (p : Int) < half c := by omega
      exact .inl ⟨hlt, (mem_nxt hlt).2 hx⟩
  · intro hlt x hx
    exact (mem_nxt hlt).1 hx

theorem cntF_le {m m' : Nat → Bool} (h : ∀ j, m j = true → m' j = true) (k : Nat) : cntF m' k ≤ cntF m k := by
  induction k with
  | zero => exact Nat.le_refl _
  | succ k ih =>
    simp only [cntF]
    cases h1 : m k with
    | false => cases m' k <;> simp <;> omega
    | true => rw [h k h1]; simpa using ih

theorem cntF_bd (m : Nat → Bool) (k : Nat) : cntF m k ≤ k := by
  induction k with
  | zero => exact Nat.le_refl _
  | succ k ih => simp only [cntF]; split <;> omega

set_option maxHeartbeats 1600000 in
theorem follow_any (n bar : Int) (b o : Nat) (t v c : ByteArray) (hc : c.size ≤ maxLen) (hK : half c ≤ 200) (hr : Kp (Ranged c)) (k : Nat) : ∀ (m : Nat → Bool) (p : Nat) (w : World), cntF m 201 ≤ k → SetAt w b o m → (p : Int) ≤ half c →
    Calls Try.prog 102 #[.pointer (some ⟨b, o, none⟩), .agg #[.int .i64 n, .string t, .string v, .string c], .int .i64 p, .int .i64 bar] w fun e w' =>
      e = .returned (.tuple #[]) ∧ ∃ m' : Nat → Bool, SetAt w' b o m' ∧ But b w.heap.size w w' ∧ Fol c bar (One p) m m' := by
  induction k with
  | zero =>
    intro m p w hk hS hp
    have hm : m p = true := by
      cases h : m p
      · have := cntF_set (m := m) (k := 201) (j := p) (by omega) h
        omega
      · rfl
    have hF : Kp (Fol c bar (One p) m m) := ⟨Fol.nothing (fun _ => hm)⟩
    replace hS : Kp (SetAt w b o m) := ⟨hS⟩
    clear hk
    have bl := fun o => (Below.refl w.heap.size w).alloc (Nat.le_refl _) o
    by_cases hb : (p : Int) = bar
    · go_enter Try.func102, Try.ntmps102
      go_wp2_with fail
      first | go_end0 | refine bodyPost_ret (results_none rfl _ _ _) rfl ?_
      exact ⟨rfl, m, hS.out.step (bl _), But.of (bl _), hF.out⟩
    · have hb2 : ((p : Int) == bar) = false := beq_eq_false_iff_ne.2 hb
      go_enter Try.func102, Try.ntmps102
      go_wp2_with fail
      refine (add_old b o m p _ (hS.out.step (bl _)) (by omega) hm).mono ?_
      rintro e w1 ⟨rfl, rfl⟩
      go_wp2_with fail
      first | go_end0 | refine bodyPost_ret (results_none rfl _ _ _) rfl ?_
      exact ⟨rfl, m, hS.out.step (bl _), But.of (bl _), hF.out⟩
  | succ k ih =>
    intro m p w hk hS hp
    replace hS : Kp (SetAt w b o m) := ⟨hS⟩
    have bl := fun o => (Below.refl w.heap.size w).alloc (Nat.le_refl _) o
    by_cases hb : (p : Int) = bar
    · have hF : Kp (Fol c bar (One p) m m) := ⟨Fol.nothing (fun h => absurd hb h)⟩
      clear hk
      go_enter Try.func102, Try.ntmps102
      go_wp2_with fail
      first | go_end0 | refine bodyPost_ret (results_none rfl _ _ _) rfl ?_
      exact ⟨rfl, m, hS.out.step (bl _), But.of (bl _), hF.out⟩
    · have hb2 : ((p : Int) == bar) = false := beq_eq_false_iff_ne.2 hb
      cases hm : m p with
      | true =>
        have hF : Kp (Fol c bar (One p) m m) := ⟨Fol.nothing (fun _ => hm)⟩
        clear hk
        go_enter Try.func102, Try.ntmps102
        go_wp2_with fail
        refine (add_old b o m p _ (hS.out.step (bl _)) (by omega) hm).mono ?_
        rintro e w1 ⟨rfl, rfl⟩
        go_wp2_with fail
        first | go_end0 | refine bodyPost_ret (results_none rfl _ _ _) rfl ?_
        exact ⟨rfl, m, hS.out.step (bl _), But.of (bl _), hF.out⟩
      | false =>
        have hcnt : Kp (cntF (fun j => if j = p then true else m j) 201 ≤ k) := ⟨by have := cntF_set (m := m) (k := 201) (j := p) (by omega) hm; omega⟩
        have hnx := nx_in hr.out (k := p) (by omega) hp
        obtain ⟨⟨n1, n2⟩, n3, n4⟩ := hnx
        have o0 := Own.new4 w (.int .i64 n) (.string t) (.string v) (.string c) 77
        have hlt := hS.out.lt
        clear hk
        go_enter Try.func102, Try.ntmps102
        go_wp2_with fail
        refine (add_new b o m p _ (hS.out.step (bl _)) (by omega) hm).mono ?_
        rintro e w1 ⟨rfl, hw1⟩
        have hS1 : SetAt w1 b o (fun j => if j = p then true else m j) := by rw [hw1]; exact (hS.out.step (bl _)).set (by omega) true
        have hB1 : But b w.heap.size w w1 := by rw [hw1]; exact (But.of (bl _)).setCell _ _
        have hO1 : Own w1 w.heap.size [.int .i64 n, .string t, .string v, .string c] := by rw [hw1]; exact o0.but ((But.refl b _ _).setCell _ _) (by omega)
        clear hw1 o0
        have q0 := hO1.c 0 _ rfl
        have q1 := hO1.c 1 _ rfl
        have q2 := hO1.c 2 _ rfl
        have q3 := hO1.c 3 _ rfl
        go_wp2_with fail
        refine (behind_any n p t v c _ hc hK (by omega) hp).mono ?_
        rintro e w2 ⟨rfl, hb2'⟩
        have hS2 := hS1.step hb2'
        have hB2 := hB1.trans (But.of (hb2'.mono hB1.size))
        have hO2 := hO1.step hb2'
        clear q0 q1 q2 q3 hS1 hO1 hB1 hb2'
        have q0 := hO2.c 0 _ rfl
        have q1 := hO2.c 1 _ rfl
        have q2 := hO2.c 2 _ rfl
        have q3 := hO2.c 3 _ rfl
        have e1 : nx1 c p = ((nx1 c p).toNat : Nat) := by omega
        have e2 : nx2 c p = ((nx2 c p).toNat : Nat) := by omega
        replace e1 : Kp _ := ⟨e1⟩
        replace e2 : Kp _ := ⟨e2⟩
        go_wp2_with fail
        rw [e1.out]
        refine (ih _ (nx1 c p).toNat w2 hcnt.out hS2 (by omega)).mono ?_
        rintro e w3 ⟨rfl, m3, hS3, hB3, hF3⟩
        have hO3 := hO2.but hB3 (by omega)
        have hB13 := hB2.trans (hB3.mono hB2.size)
        replace hF3 : Kp _ := ⟨hF3⟩
        have hcnt3 : Kp (cntF m3 201 ≤ k) := ⟨Nat.le_trans (cntF_le hF3.out.more 201) hcnt.out⟩
        clear q0 q1 q2 q3 hS2 hO2 hB2 hB3
        have q0 := hO3.c 0 _ rfl
        have q1 := hO3.c 1 _ rfl
        have q2 := hO3.c 2 _ rfl
        have q3 := hO3.c 3 _ rfl
        go_wp2_with fail
        rw [e2.out]
        refine (ih _ (nx2 c p).toNat w3 hcnt3.out hS3 (by omega)).mono ?_
        rintro e w4 ⟨rfl, m4, hS4, hB4, hF4⟩
        replace hF4 : Kp _ := ⟨hF4⟩
        have hB14 := hB13.trans (hB4.mono hB13.size)
        go_wp2_with fail
        first | go_end0 | refine bodyPost_ret (results_none rfl _ _ _) rfl ?_
        refine ⟨rfl, m4, hS4, hB14, ?_⟩
        have hu := Fol.union hF3.out hF4.out
        have hx := nx_set (c := c) (p := p) hp
        refine Fol.step hr.out hp hb ?_ ?_ hu
        · intro x hx2
          refine hx.1 x ?_
          rcases hx2 with h | h
          · exact .inl (by have h : x = _ := h; rw [h]; exact e1.out.symm)
          · exact .inr (by have h : x = _ := h; rw [h]; exact e2.out.symm)
        · intro hlt x hx2
          rcases hx.2 hlt x hx2 with h | h
          · exact .inl (by show x = _; rw [h]; exact e1.out)
          · exact .inr (by show x = _; rw [h]; exact e2.out)

/-- n values in a row -/
def big (n : Nat) (f : Nat → Value) : Array Value := ((List.range n).map f).toArray

theorem big_size (n : Nat) (f : Nat → Value) : (big n f).size = n := by simp [big]
theorem big_get (n : Nat) (f : Nat → Value) (j : Nat) (h : j < n) : (big n f).toList[j]? = some (f j) := by
  simp [big, List.getElem?_range h]
theorem big_len (n : Nat) (f : Nat → Value) : (big n f).toList.length = n := by simp [big]
theorem big_ne (n : Nat) (f : Nat → Value) (h : n ≠ 0) : ¬ big n f = #[] := fun e => h (by have := congrArg Array.size e; rw [big_size] at this; simpa using this)
theorem big_mem {n : Nat} {f : Nat → Value} {v : Value} (h : v ∈ (big n f).toList) : ∃ j, j < n ∧ v = f j := by
  simp [big] at h
  obtain ⟨j, hj, e⟩ := h
  exact ⟨j, hj, e.symm⟩
theorem big_congr {n : Nat} {f g : Nat → Value} (h : ∀ j, j < n → f j = g j) : big n f = big n g := by
  unfold big
  congr 1
  exact List.map_congr_left (fun j hj => h j (by simpa using hj))

/-- a great value out of memory, and into it -/
theorem ld_big {P : Program} (w : World) (b o n : Nat) (f : Nat → Value) (h : ∀ j, j < n → w.cell? ⟨b, o + j, none⟩ = some (f j)) :
    (loadCellsFrom ⟨b, o, none⟩ 0 n #[]).run P w = .ok (big n f) w := by
  have hl : (loadCells ⟨b, o, none⟩ ((List.range n).map f).length).run P w = .ok ((List.range n).map f).toArray w :=
    run_loadCells_list (P := P) w ⟨b, o, none⟩ ((List.range n).map f) (fun j v hv => by
      have hadd : (⟨b, o, none⟩ : Addr).add j = ⟨b, o + j, none⟩ := by unfold Addr.add; split <;> simp_all
      rw [List.getElem?_map] at hv
      by_cases hj : j < n
      · rw [List.getElem?_range hj] at hv
        rw [hadd, h j hj]
        simpa using hv
      · rw [List.getElem?_eq_none (by simp; omega)] at hv
        simp at hv)
  rw [List.length_map, List.length_range] at hl
  exact hl

theorem st_big {P : Program} (w : World) (b o n : Nat) (f : Nat → Value) (h : ∀ j, j < n → (w.cell? ⟨b, o + j, none⟩).isSome = true) (hf : ∀ j, j < n → w.frozen? ⟨b, o + j, none⟩ = false) (h1 : ∀ j, j < n → (f j).oneCell' = true) :
    (storeCells ⟨b, o, none⟩ (big n f).toList 0).run P w = .ok () (w.setCells b o (big n f).toList) := by
  have hl := run_storeCells_cells (P := P) b o (big n f).toList 0 w (by rw [big_len]; simpa using h) (by rw [big_len]; simpa using hf) (fun v hv => by obtain ⟨j, hj, e⟩ := big_mem hv; rw [e]; exact h1 j hj)
  rw [Nat.add_zero] at hl
  exact hl

theorem st_big_cell (w : World) (b o n : Nat) (f : Nat → Value) (h : ∀ j, j < n → (w.cell? ⟨b, o + j, none⟩).isSome = true) (j : Nat) (hj : j < n) : (w.setCells b o (big n f).toList).cell? ⟨b, o + j, none⟩ = some (f j) := by
  have := World.cell?_setCells_in b (big n f).toList o w (by rw [big_len]; exact h) j (by rw [big_len]; exact hj)
  rw [this]
  have h2 := big_get n f j hj
  rw [List.getElem?_eq_getElem (by rw [big_len]; exact hj)] at h2
  exact h2

theorem load_big {P : Program} (w : World) (ty : TypeId) (d : TypeDesc) (b o n : Nat) (f : Nat → Value) (hu : P.underlying ty = some d) (hd : (match d with | .struct _ | .array _ _ => true | _ => false) = true) (hi : (P.info? ty).map (·.size) = some n) (h : ∀ j, j < n → w.cell? ⟨b, o + j, none⟩ = some (f j)) :
    (loadVar ty ⟨b, o, none⟩).run P w = .ok (.agg (big n f)) w := by
  have hl : (loadCells ⟨b, o, none⟩ n).run P w = .ok (big n f) w := ld_big w b o n f h
  cases hq : P.info? ty with
  | none => simp [hq] at hi
  | some i =>
    have hs : i.size = n := by simpa [hq] using hi
    have hagg : (isAgg ty).run P w = .ok true w := by
      unfold isAgg
      rw [Sem.run_bind, run_underlying hu w]
      cases d <;> simp_all
    simp [loadVar, Sem.run_bind, hagg, sizeOf, typeInfo, hq, hs, hl]

theorem wp_load_big {P : Program} {op : Oper} {a : Act} {w : World} {K : Act → World → Prop} {Q : Exit → Act → World → Prop} (ty : TypeId) (x : Operand) (ho : op.op = .load ty x)
    (b o n : Nat) (f : Nat → Value) (hx : a.eval x = .pointer (some ⟨b, o, none⟩)) (d : TypeDesc) (hu : P.underlying ty = some d) (hd : (match d with | .struct _ | .array _ _ => true | _ => false) = true) (hi : (P.info? ty).map (·.size) = some n)
    (hc : ∀ j, j < n → w.cell? ⟨b, o + j, none⟩ = some (f j)) (h : K (a.put op.dst (.agg (big n f))) w) : op.wp P a w K Q := by
  unfold Oper.wp execOp
  simp only [ho, hx, Instr.loadAt, Instr.sureAddr, Sem.run_bind, Sem.run_pure, load_big w ty d b o n f hu hd hi hc, Result.andThen_ok]
  exact h

theorem wp_store_big {P : Program} {op : Oper} {a : Act} {w : World} {K : Act → World → Prop} {Q : Exit → Act → World → Prop} (ty : TypeId) (x y : Operand) (ho : op.op = .store ty x y)
    (b o n : Nat) (f : Nat → Value) (hx : a.eval x = .pointer (some ⟨b, o, none⟩)) (hy : a.eval y = .agg (big n f)) (hi : (P.info? ty).map (·.size) = some n)
    (hc : ∀ j, j < n → (w.cell? ⟨b, o + j, none⟩).isSome = true) (hf : ∀ j, j < n → w.frozen? ⟨b, o + j, none⟩ = false) (h1 : ∀ j, j < n → (f j).oneCell' = true) (h : K (a.put op.dst undef) (w.setCells b o (big n f).toList)) : op.wp P a w K Q := by
  have hl := st_big (P := P) w b o n f hc hf h1
  unfold Oper.wp execOp
  cases hq : P.info? ty with
  | none => simp [hq] at hi
  | some i =>
    have hs : i.size = n := by simpa [hq] using hi
    simp [ho, hx, hy, Instr.storeAt, Instr.sureAddr, storeVar, sizeOf, typeInfo, hq, Value.cells, hs, hl, big_size]
    exact h

theorem results_cell_big {P : Program} {fn : Func} {p : Tmp} {ty : TypeId} (h : fn.results = #[.cell p ty]) (tmps : Array Value) (w : World) (b o n : Nat) (f : Nat → Value) (d : TypeDesc)
    (hp : tmps.getD p undef = .pointer (some ⟨b, o, none⟩)) (hu : P.underlying ty = some d) (hd : (match d with | .struct _ | .array _ _ => true | _ => false) = true) (hi : (P.info? ty).map (·.size) = some n)
    (hc : ∀ j, j < n → w.cell? ⟨b, o + j, none⟩ = some (f j)) : (results fn tmps).run P w = .ok (.agg (big n f)) w := by
  have hp' : tmps[p]?.getD undef = .pointer (some ⟨b, o, none⟩) := by simpa using hp
  simp [results, h, hp', asAddr, load_big w ty d b o n f hu hd hi hc]

theorem below_cells {B b : Nat} {x w : World} (h : Below B x w) (hB : B ≤ b) (vs : List Value) : ∀ o, Below B x (w.setCells b o vs) := by
  induction vs generalizing w with
  | nil => exact fun _ => h
  | cons v r ih => exact fun o => ih (h.setCell (p := ⟨b, o, none⟩) hB v) (o + 1)

theorem but_cells {B b : Nat} {x w : World} (h : But b B x w) (vs : List Value) : ∀ o, But b B x (w.setCells b o vs) := by
  induction vs generalizing w with
  | nil => exact fun _ => h
  | cons v r ih => exact fun o => ih (h.setCell o v) (o + 1)

theorem setRow_self (w : World) (g : Nat) (cs : Array Value) (t : TypeId) (hg : w.heap[g]? = some (.cells cs t (0, 0))) : w.setRow g cs = w := by
  have h := run_storeCells_from (P := Try.prog) g t [] cs.size cs w hg (by simp) (by simp)
  simp only [storeCells, List.append_nil] at h
  rw [show cs.toList.take cs.size = cs.toList from List.take_of_length_le (by simp), Array.toArray_toList] at h
  have h2 : Result.ok () w = Result.ok () (w.setRow g cs) := h
  injection h2 with _ h3
  exact h3.symm

theorem store_same (w : World) (g : Nat) (cs : Array Value) (t : TypeId) (hg : w.heap[g]? = some (.cells cs t (0, 0))) (h1 : cs.all (·.oneCell') = true) :
    (storeCells ⟨g, 0, none⟩ cs.toList 0).run Try.prog w = .ok () w := by
  have h := run_storeCells_from (P := Try.prog) g t cs.toList 0 cs w hg (by simp) (fun v hv => (Array.all_eq_true_iff_forall_mem.1 h1) v (by simpa using hv))
  rw [h]
  simp only [List.take_zero, List.nil_append, Array.toArray_toList]
  rw [setRow_self w g cs t hg]

theorem one_rep (n : Nat) (v : Value) (h : v.oneCell' = true) : (Array.replicate n v).all (·.oneCell') = true := by
  rw [Array.all_eq_true]
  intro i hi
  simp [h]

theorem row3 (w : World) (o1 o2 o3 : Obj) : (((w.alloc o1).alloc o2).alloc o3).heap[w.heap.size + 1 + 1]? = some o3 := by
  have h := heap_alloc_last ((w.alloc o1).alloc o2) o3
  rw [show ((w.alloc o1).alloc o2).heap.size = w.heap.size + 1 + 1 from by simp] at h
  exact h
theorem row2 (w : World) (o1 o2 o3 : Obj) : (((w.alloc o1).alloc o2).alloc o3).heap[w.heap.size + 1]? = some o2 := by
  rw [Below.heap_alloc ((w.alloc o1).alloc o2) o3 (w.heap.size + 1) (by simp)]
  have h := heap_alloc_last (w.alloc o1) o2
  rw [show (w.alloc o1).heap.size = w.heap.size + 1 from by simp] at h
  exact h

theorem SetAt.of_row {w : World} {g : Nat} {t : TypeId} (hg : w.heap[g]? = some (.cells (Array.replicate 201 (.bool false)) t (0, 0))) : SetAt w g 0 (fun _ => false) := by
  refine ⟨(Array.getElem?_eq_some_iff.1 hg).1, fun j hj => ?_, fun j hj => ?_⟩
  · rw [Nat.zero_add, cell_of_row w g j _ t (0, 0) hg, Array.getElem?_replicate, if_pos hj]
  · simp [World.frozen?, hg]

theorem zero_set : Try.zeroCells110 = Array.replicate 201 (.bool false) := by rfl

end Go.Proofs.Ytcnbifdlkalimaa
