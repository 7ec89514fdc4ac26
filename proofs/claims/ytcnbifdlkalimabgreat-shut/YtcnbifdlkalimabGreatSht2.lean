/-
  The plain mathematics of translated code: the running heights of the stack, as the program keeps them while it writes; what kinds of statements there are; no condition but those that stand in each lemma.
-/
import Derived.Test.YtcnbifdlkalimabGreatSht1
namespace Go.Proofs.YtcnbifdlkalimabGreat
open Go.RowKit
set_option linter.unusedVariables false

/-- the height ahead of place i, on the way from place 0 on -/
def hgt (L : List Int) : Nat → Int
  | 0 => 0
  | i + 1 => hgt L i + givesF (L.getD (2 * i) 0) - takesF (L.getD (2 * i) 0)

theorem hgt_congr {L M : List Int} : ∀ i : Nat, (∀ j, j < i → L.getD (2 * j) 0 = M.getD (2 * j) 0) → hgt L i = hgt M i
  | 0, h => rfl
  | i + 1, h => by simp only [hgt]; rw [hgt_congr i (fun j hj => h j (by omega)), h i (by omega)]

/-- the program's heights are these -/
structure HI (q : Tq) : Prop where
  ev : q.cd.length % 2 = 0
  h : q.h = hgt q.cd (q.cd.length / 2)
  hi : ∀ i, i ≤ q.cd.length / 2 → hgt q.cd i ≤ q.hi
  ex : ∃ i, i ≤ q.cd.length / 2 ∧ hgt q.cd i = q.hi

theorem HI.of {q q' : Tq} (H : HI q) (h1 : q'.cd = q.cd) (h2 : q'.h = q.h) (h3 : q'.hi = q.hi) : HI q' := by
  obtain ⟨a, b, c, d⟩ := H
  exact ⟨by rw [h1]; exact a, by rw [h1, h2]; exact b, by rw [h1, h3]; exact c, by rw [h1, h3]; exact d⟩
theorem HI.emit {q : Tq} (H : HI q) (op x : Int) : HI (emitQ q op x) := by
  have ev := H.ev
  have hl : (emitQ q op x).cd.length = q.cd.length + 2 := by show (q.cd ++ [op, x % 256]).length = _; simp
  have e1 : ∀ i, i ≤ q.cd.length / 2 → hgt (emitQ q op x).cd i = hgt q.cd i := fun i hi => hgt_congr i fun j hj => by
    show (q.cd ++ [op, x % 256]).getD (2 * j) 0 = _
    rw [List.getD_eq_getElem?_getD, List.getD_eq_getElem?_getD, List.getElem?_append_left (by omega)]
  have e2 : hgt (emitQ q op x).cd (q.cd.length / 2 + 1) = hgt q.cd (q.cd.length / 2) + givesF op - takesF op := by
    simp only [hgt]
    rw [e1 _ (Nat.le_refl _)]
    have : (emitQ q op x).cd.getD (2 * (q.cd.length / 2)) 0 = op := by
      show (q.cd ++ [op, x % 256]).getD (2 * (q.cd.length / 2)) 0 = _
      rw [List.getD_eq_getElem?_getD, List.getElem?_append_right (by omega), show 2 * (q.cd.length / 2) - q.cd.length = 0 from by omega]
      rfl
    rw [this]
  have hh := H.h
  refine ⟨by rw [hl]; omega, ?_, fun i hi => ?_, ?_⟩
  · rw [hl, show (q.cd.length + 2) / 2 = q.cd.length / 2 + 1 from by omega, e2]
    show q.h + givesF op - takesF op = _
    rw [hh]
  · rw [hl] at hi
    show _ ≤ max q.hi (q.h + givesF op - takesF op)
    by_cases c : i ≤ q.cd.length / 2
    · rw [e1 i c]; have := H.hi i c; omega
    · rw [show i = q.cd.length / 2 + 1 from by omega, e2, hh]; omega
  · obtain ⟨i, hi, hx⟩ := H.ex
    rw [hl]
    show ∃ i, _ ∧ _ = max q.hi (q.h + givesF op - takesF op)
    by_cases c : q.hi < q.h + givesF op - takesF op
    · exact ⟨q.cd.length / 2 + 1, by omega, by rw [e2, ← hh]; omega⟩
    · exact ⟨i, by omega, by rw [e1 i hi, hx]; omega⟩
theorem HI.aim {q : Tq} (H : HI q) (z : Nat) : HI (aimQ q z) := by
  have hl : (aimQ q z).cd.length = q.cd.length := by show (q.cd.set _ _).length = _; simp
  have e1 : ∀ i, hgt (aimQ q z).cd i = hgt q.cd i := fun i => hgt_congr i fun j hj => by
    show (q.cd.set (2 * z + 1) _).getD (2 * j) 0 = _
    rw [List.getD_eq_getElem?_getD, List.getD_eq_getElem?_getD, List.getElem?_set_ne (by omega)]
  exact ⟨by rw [hl]; exact H.ev, by rw [hl, e1]; exact H.h, fun i hi => by rw [e1]; exact H.hi i (by rw [hl] at hi; exact hi), by
    obtain ⟨i, a, b⟩ := H.ex
    exact ⟨i, by rw [hl]; exact a, by rw [e1]; exact b⟩⟩

theorem HI.rd {q : Tq} (H : HI q) (r : Rd) : HI { q with r := r } := H.of rfl rfl rfl
theorem HI.add {q : Tq} (H : HI q) (x : Sq) : HI (addQ q x) := H.of rfl rfl rfl
theorem term_HI {s : ByteArray} {ex : Tq × Sq → Tq × Sq} (ih : ∀ x, HI x.1 → HI (ex x).1) (x : Tq × Sq) (H : HI x.1) : HI (termQ s ex x).1 := by
  unfold termQ
  split
  · exact HI.emit (H.rd _) _ _
  · split
    · unfold tapeQ
      exact HI.emit ((H.rd _).rd _) _ _
    · split
      · exact HI.rd (ih ({ x.1 with r := nx (adv s x.1.r) }, x.2) (H.rd _)) _
      · unfold lettQ
        exact HI.emit ((H.rd _).rd _) _ _
theorem more_HI {s : ByteArray} {tm : Tq × Sq → Tq × Sq} (ih : ∀ x, HI x.1 → HI (tm x).1) : ∀ (k : Nat) (x : Tq × Sq), HI x.1 → HI (moreQ s tm k x).1
  | 0, x, H => H.rd _
  | k + 1, x, H => by
    simp only [moreQ]
    split
    · exact H.rd _
    · exact more_HI ih k _ (HI.emit (ih ({ x.1 with r := nx (adv s x.1.r) }, x.2) (H.rd _)) _ _)
theorem expr_HI {s : ByteArray} : ∀ (k : Nat) (x : Tq × Sq), HI x.1 → HI (exprQ s k x).1
  | 0, x, H => H
  | k + 1, x, H => more_HI (fun x H => term_HI (expr_HI k) x H) k _ (term_HI (expr_HI k) x H)
theorem ex_HI {s : ByteArray} (q : Tq) (r : Rd) (x : Sq) (H : HI q) : HI (exQ s ({ q with r := r }, x)).1 := expr_HI _ _ (H.rd r)
theorem loop_HI {s : ByteArray} {f : Tq → Tq} (ih : ∀ q, HI q → HI (f q)) : ∀ (k : Nat) (q : Tq), HI q → HI (loopQ s f k q)
  | 0, q, H => H.rd _
  | k + 1, q, H => by
    simp only [loopQ]
    split
    · exact loop_HI ih k _ (ih _ (H.rd _))
    · exact H.rd _
theorem blk_HI {s : ByteArray} {f : Tq → Tq} (ih : ∀ q, HI q → HI (f q)) (k : Nat) (q : Tq) (H : HI q) : HI (blkQ s f k q) :=
  HI.rd (loop_HI ih k { q with r := tk s q.r 123 } (H.rd _)) _
theorem stm_HI {s : ByteArray} : ∀ (k : Nat) (ou : Int) (q : Tq), HI q → HI (stmQ s k ou q)
  | 0, ou, q, H => H
  | k + 1, ou, q, H => by
    have H : HI { q with r := adv s q.r } := H.rd _
    simp only [stmQ]
    split
    · unfold wriQ
      exact HI.add (HI.emit (HI.rd (ex_HI _ _ _ H) _) _ _) _
    · split
      · unfold choQ
        dsimp only
        split
        · exact HI.aim (blk_HI (fun q h => stm_HI k _ q h) k _ (HI.aim (HI.emit (HI.rd (blk_HI (fun q h => stm_HI k _ q h) k _ (HI.emit (HI.add (ex_HI _ _ _ H) _) _ _)) _) _ _) _)) _
        · exact HI.aim (HI.rd (blk_HI (fun q h => stm_HI k _ q h) k _ (HI.emit (HI.add (ex_HI _ _ _ H) _) _ _)) _) _
      · split
        · unfold repQ
          dsimp only
          exact HI.aim (HI.emit (blk_HI (fun q h => stm_HI k _ q h) k _ (HI.emit (HI.add (ex_HI _ _ _ H) _) _ _)) _ _) _
        · unfold assQ
          exact HI.add (HI.emit (HI.rd (ex_HI _ _ _ H) _) _ _) _
theorem body_HI {s : ByteArray} : ∀ (k : Nat) (q : Tq), HI q → HI (bodyQ s k q)
  | 0, q, H => H.rd _
  | k + 1, q, H => by
    simp only [bodyQ]
    split
    · exact body_HI k _ (stm_HI _ _ _ (H.rd _))
    · exact H.rd _
theorem read_HI (s : ByteArray) : HI (readQ s) := by
  have hH := head_sim s
  refine body_HI _ _ ⟨by rw [hH.cd]; rfl, by rw [hH.cd, hH.h]; rfl, fun i hi => ?_, ⟨0, by omega, by rw [hH.cd, hH.hi]; rfl⟩⟩
  rw [hH.cd] at hi ⊢
  rw [hH.hi, show i = 0 from by simpa using hi]
  exact Int.le_refl _

/-- the kinds of statements that are read -/
def SKs (p : Rs) : Prop := ∀ x, x ∈ p.sm → SK x
theorem SKs.add {p : Rs} (H : SKs p) {r : Rd} {x : Sm} (h : SK x) : SKs (stoP p r x).1 := fun y hy => by
  have hy : y ∈ p.sm ++ [x] := hy
  rw [List.mem_append, List.mem_singleton] at hy
  rcases hy with c | c
  · exact H y c
  · rw [c]; exact h
theorem exP_sm (s : ByteArray) (p : Rs) : (exP s p).1.sm = p.sm := (ex_sim s (⟨p.r, p.n, 0, fun _ _ => false, p.ls, p.vs, [], 0, 0, []⟩, ⟨0, 0, 0, 0, none6, none6⟩) p ⟨rfl, rfl, rfl, rfl⟩).sm
theorem exP_SK {s : ByteArray} {p : Rs} (H : SKs p) (r : Rd) : SKs (exP s { p with r := r }).1 := fun x hx => H x (by rw [exP_sm] at hx; exact hx)
theorem loop_SK {s : ByteArray} {f : Rs → Rs × Nat} (ih : ∀ p, SKs p → SKs (f p).1) : ∀ (k : Nat) (p : Rs) (l : List Nat), SKs p → SKs (loopP s f k p l).1
  | 0, p, l, H => H
  | k + 1, p, l, H => by
    simp only [loopP]
    split
    · exact loop_SK ih k _ _ (ih _ H)
    · exact H
theorem blk_SK {s : ByteArray} {f : Rs → Rs × Nat} (ih : ∀ p, SKs p → SKs (f p).1) (k : Nat) (p : Rs) (H : SKs p) : SKs (blkP s f k p).1 := loop_SK ih k { p with r := tk s p.r 123 } [] H
theorem stm_SK {s : ByteArray} : ∀ (k : Nat) (p : Rs), SKs p → SKs (stmP s k p).1
  | 0, p, H => H
  | k + 1, p, H => by
    simp only [stmP]
    split
    · exact SKs.add (exP_SK (p := { p with r := adv s p.r }) H _) (.inr (.inl ⟨rfl, rfl, rfl⟩))
    · split
      · unfold choP
        dsimp only
        have hy := exP_SK (s := s) (p := { p with r := adv s p.r }) H (tk s (adv s p.r) 63)
        dsimp only at hy
        generalize exP s { p with r := tk s (adv s p.r) 63 } = y at *
        have h1 := blk_SK (s := s) (stm_SK (s := s) k) k y.1 hy
        generalize blkP s (stmP s k) k y.1 = b at *
        split
        · have h2 := blk_SK (s := s) (stm_SK (s := s) k) k { b.1 with r := nx (adv s b.1.r) } h1
          generalize blkP s (stmP s k) k { b.1 with r := nx (adv s b.1.r) } = d at *
          exact h2.add (.inr (.inr (.inl ⟨rfl, fun h => by cases h⟩)))
        · exact h1.add (.inr (.inr (.inl ⟨rfl, fun h => rfl⟩)))
      · split
        · unfold repP
          dsimp only
          have hy := exP_SK (s := s) (p := { p with r := adv s p.r }) H (tk s (adv s p.r) 64)
          dsimp only at hy
          generalize exP s { p with r := tk s (adv s p.r) 64 } = y at *
          have h1 := blk_SK (s := s) (stm_SK (s := s) k) k y.1 hy
          generalize blkP s (stmP s k) k y.1 = b at *
          exact h1.add (.inr (.inr (.inr ⟨rfl, rfl⟩)))
        · exact SKs.add (exP_SK (p := { p with r := adv s p.r }) H _) (.inl ⟨rfl, rfl, rfl⟩)
theorem read_SK (s : ByteArray) : SKs (readP s).1 := loop_SK (stm_SK _) _ _ _ (fun x hx => by simp [headP] at hx)
end Go.Proofs.YtcnbifdlkalimabGreat
