import Derived.Test.YtcnbifdlkalimaaRdr26

/-
  The walks of the document's translating: how long a code is; plain facts of the code of statements; no condition but those that stand in each lemma.
-/
namespace Go.Proofs.Ytcnbifdlkalimaa
open Go.RowKit
set_option linter.unusedVariables false
set_option maxRecDepth 100000

set_option maxHeartbeats 400000 in
theorem long_any (V : ByteArray) (w : World) (h : V.size ≤ 100000) : Calls Try.prog 88 #[.string V] w fun e w' => e = .returned (.int .i64 (V.size / 2 : Nat)) ∧ w' = w := by
  have h1 : (V.size : Int) ≤ 100000 := by omega
  have h2 : ((V.size / 2 : Nat) : Int) = (V.size : Int) / 2 := by omega
  rw [h2]
  go_enter Try.func88, Try.ntmps88
  go_wp2
  go_ret
  exact ⟨by simp, rfl⟩

theorem allG_app (f : Nat → Nat → List Int) (he : ∀ n pl, (f n pl).length % 2 = 0) (l2 : List Nat) : ∀ (l1 : List Nat) (pl : Nat), allG f (l1 ++ l2) pl = allG f l1 pl ++ allG f l2 (pl + (allG f l1 pl).length / 2)
  | [], pl => by simp [allG]
  | n :: l1, pl => by
    have h1 := he n pl
    have h2 := allG_even f he l1 (pl + (f n pl).length / 2)
    simp only [List.cons_append, allG]
    rw [allG_app f he l2 l1, List.append_assoc, List.length_append, show pl + (f n pl).length / 2 + (allG f l1 (pl + (f n pl).length / 2)).length / 2 = pl + ((f n pl).length + (allG f l1 (pl + (f n pl).length / 2)).length) / 2 from by omega]
theorem als_take {ex : List Ex} {sm : List Sm} {l : List Nat} {pl i : Nat} (hi : i < l.length) : als ex sm (l.take (i + 1)) pl = als ex sm (l.take i) pl ++ one ex sm l[i] (pl + (als ex sm (l.take i) pl).length / 2) := by
  unfold als
  rw [List.take_succ_eq_append_getElem hi]
  exact allG_add (one ex sm) l[i] (l.take i) pl (one_even ex sm)
theorem als_le {ex : List Ex} {sm : List Sm} {l : List Nat} {pl : Nat} (i : Nat) : (als ex sm (l.take i) pl).length ≤ (als ex sm l pl).length := by
  have h := allG_app (one ex sm) (one_even ex sm) (l.drop i) (l.take i) pl
  rw [List.take_append_drop] at h
  unfold als
  rw [h, List.length_append]
  omega

/-- the code of a statement -/
theorem one_at {ex : List Ex} {sm : List Sm} (hE : ExOk ex) (hS : SmOk ex sm) {n pl : Nat} {x : Sm} (hx : sm[n]? = some x) :
    one ex sm n pl = (if x.k = 61 then cod ex x.e ++ [2, x.v % 256] else if x.k = 62 then cod ex x.e ++ [11, x.v % 256] else
      (if x.k = 64 then cod ex x.e ++ [9, ((pl + (cod ex x.e).length / 2 + 1 + (als ex sm x.bo (pl + (cod ex x.e).length / 2 + 1)).length / 2 + 1 : Nat) : Int) % 256] ++ als ex sm x.bo (pl + (cod ex x.e).length / 2 + 1) ++ [8, (pl : Int) % 256]
      else if x.two = false then cod ex x.e ++ [9, ((pl + (cod ex x.e).length / 2 + 1 + (als ex sm x.bo (pl + (cod ex x.e).length / 2 + 1)).length / 2 : Nat) : Int) % 256] ++ als ex sm x.bo (pl + (cod ex x.e).length / 2 + 1)
      else cod ex x.e ++ [9, ((pl + (cod ex x.e).length / 2 + 1 + (als ex sm x.bo (pl + (cod ex x.e).length / 2 + 1)).length / 2 + 1 : Nat) : Int) % 256] ++ als ex sm x.bo (pl + (cod ex x.e).length / 2 + 1) ++ [8, ((pl + (cod ex x.e).length / 2 + 1 + (als ex sm x.bo (pl + (cod ex x.e).length / 2 + 1)).length / 2 + 1 + (als ex sm x.el (pl + (cod ex x.e).length / 2 + 1 + (als ex sm x.bo (pl + (cod ex x.e).length / 2 + 1)).length / 2 + 1)).length / 2 : Nat) : Int) % 256] ++ als ex sm x.el (pl + (cod ex x.e).length / 2 + 1 + (als ex sm x.bo (pl + (cod ex x.e).length / 2 + 1)).length / 2 + 1))) := by
  have hn : n < sm.length := (List.getElem?_eq_some_iff.1 hx).1
  obtain ⟨h1, h2, h3⟩ := hS n x hx
  unfold one
  simp only [onF, hx]
  have e1 : ∀ pl, allG (onF ex sm n) x.bo pl = als ex sm x.bo pl := fun pl => all_any hE hS fun m hm => ⟨by have := h2 m hm; omega, h2 m hm⟩
  have e2 : ∀ pl, allG (onF ex sm n) x.el pl = als ex sm x.el pl := fun pl => all_any hE hS fun m hm => ⟨by have := h3 m hm; omega, h3 m hm⟩
  simp only [e1, e2]
end Go.Proofs.Ytcnbifdlkalimaa

/-
  The walks of the document's translating: the code of a list of statements; for every source that was read.
-/
namespace Go.Proofs.Ytcnbifdlkalimaa
open Go.RowKit
set_option linter.unusedVariables false
set_option maxRecDepth 100000

theorem IRow.step {w w' : World} {B : Nat} {S : Nat → Value} {v : Value} {l : List Nat} (h : IRow w B S v l) (hb : Below w.heap.size w w') : IRow w' B S v l := ⟨orow_step h.1 hb, h.2⟩

/-- statements below k are coded so -/
def OGo (rb sb B : Nat) (s tb : ByteArray) (tp : Value) (p : Rs) (S : Nat → Value) (sv : List (Value × Value)) (k : Nat) : Prop := ∀ (n pl : Nat) (w : World), n < k → PsAt w rb sb B s p tb tp S sv → n < p.sm.length → pl + (one p.ex p.sm n pl).length ≤ 20000 →
  Calls Try.prog 137 #[.pointer (some ⟨sb, 0, none⟩), .int .i64 n, .int .i64 pl] w fun en w' => en = .returned (.string (bs (one p.ex p.sm n pl))) ∧ Below w.heap.size w w'

set_option maxHeartbeats 3200000 in
theorem allP_any (rb sb B : Nat) (s tb : ByteArray) (tp : Value) (p : Rs) (S : Nat → Value) (sv : List (Value × Value)) (k : Nat) (ih : Kp (OGo rb sb B s tb tp p S sv k)) (l : List Nat) (v : Value) (pl : Nat) (w : World) (H : PsAt w rb sb B s p tb tp S sv) (hI : IRow w B S v l) (hn : ∀ n ∈ l, n < k ∧ n < p.sm.length) (hl : pl + (als p.ex p.sm l pl).length ≤ 20000) (hll : l.length ≤ 20000) :
    Calls Try.prog 87 #[.pointer (some ⟨sb, 0, none⟩), v, .int .i64 pl] w fun en w' => en = .returned (.string (bs (als p.ex p.sm l pl))) ∧ Below w.heap.size w w' := by
  have hlt := H.lt
  rcases hI.1.2 with ⟨rfl, h0⟩ | ⟨g, cap, cur, rfl, _⟩
  · have e1 : l = [] := List.eq_nil_of_length_eq_zero h0
    subst e1
    clear H hI hn hl hll ih
    go_enter Try.func87, Try.ntmps87
    go_wp2_with fail
    go_loopw [7, 8] (fun cv iv wr => cv = .string ⟨#[]⟩ ∧ iv = .int .i64 0 ∧ Kp (wr = w)) (fun _ _ _ => 0)
    case atStart => exact ⟨rfl, rfl, ⟨rfl⟩⟩
    case round =>
      obtain ⟨rfl, rfl, hw⟩ := hrel
      go_wp2_with fail
      go_ret
      exact ⟨rfl, by rw [hw.out]; exact Below.refl _ _⟩
  · have hI' : Kp (IRow w B S (.slice (some ⟨g, 0, none⟩) l.length cap) l) := ⟨hI⟩
    have H' : Kp _ := ⟨H⟩
    replace hn : Kp _ := ⟨hn⟩
    replace hl : Kp _ := ⟨hl⟩
    obtain ⟨m, hm⟩ : ∃ m, l.length = m := ⟨_, rfl⟩
    rw [hm] at hll hI' ⊢
    clear H hI
    go_enter Try.func87, Try.ntmps87
    go_wp2_with fail
    go_loopw [7, 8] (fun cv iv wr => ∃ i : Nat, i ≤ m ∧ cv = .string (bs (als p.ex p.sm (l.take i) pl)) ∧ iv = .int .i64 i ∧ Kp (Below w.heap.size w wr)) (fun _ iv _ => m - (intOf iv).toNat)
    case atStart => exact ⟨0, by omega, rfl, rfl, ⟨Below.refl _ _⟩⟩
    case round =>
      obtain ⟨i, him, rfl, rfl, hb⟩ := hrel
      by_cases hi : i < m
      · have hii : (i : Int) < (m : Int) := by omega
        have hil : i < l.length := by omega
        have hmem := hn.out l[i] (List.getElem_mem hil)
        have hA := H'.out.step hb.out
        have hI2 := hI'.out.step hb.out
        have hc : wr.cell? ⟨g, i, none⟩ = some (.int .i64 (l[i] : Nat)) := by
          have h := hI2.1
          rw [hm] at h
          rw [h.cellAt i (by omega)]
          unfold itV
          rw [List.getElem?_map, List.getElem?_eq_getElem hil]
          rfl
        have hgl : g < wr.heap.size := by have h := hI2.1; rw [hm] at h; exact (h.lt g rfl).2
        have htk := als_take (ex := p.ex) (sm := p.sm) (pl := pl) hil
        have hle1 := als_le (ex := p.ex) (sm := p.sm) (l := l) (pl := pl) (i + 1)
        rw [htk, List.length_append] at hle1
        obtain ⟨q, hq⟩ : ∃ q, pl + (als p.ex p.sm (l.take i) pl).length / 2 = q := ⟨_, rfl⟩
        rw [hq] at htk hle1
        have hll2 := hl.out
        have hq4 : q ≤ 40000 := by omega
        have hpl : pl ≤ 20000 := by omega
        obtain ⟨V, hV⟩ : ∃ V, bs (als p.ex p.sm (l.take i) pl) = V := ⟨_, rfl⟩
        have hVs : V.size = (als p.ex p.sm (l.take i) pl).length := by rw [← hV, bs_size]
        obtain ⟨n, hnn⟩ : ∃ n, l[i] = n := ⟨_, rfl⟩
        rw [hnn] at hmem hc htk hle1
        obtain ⟨V2, hV2⟩ : ∃ V2, bs (one p.ex p.sm n q) = V2 := ⟨_, rfl⟩
        have hV2s : V2.size = (one p.ex p.sm n q).length := by rw [← hV2, bs_size]
        have hOn : Kp (∀ W, Below wr.heap.size wr W → Calls Try.prog 137 #[.pointer (some ⟨sb, 0, none⟩), .int .i64 (n : Nat), .int .i64 (q : Nat)] W fun en w' => en = .returned (.string V2) ∧ Below W.heap.size W w') := ⟨fun W hW => by
          rw [← hV2]
          exact ih.out n q W hmem.1 (hA.step hW) hmem.2 (by omega)⟩
        obtain ⟨hh, hhh⟩ : ∃ hh, V.size / 2 = hh := ⟨_, rfl⟩
        have hLg := fun W => long_any V W (by omega)
        rw [hhh] at hLg
        have hcat : bs (als p.ex p.sm (l.take (i + 1)) pl) = V ++ V2 := by rw [htk, bs_append, hV, hV2]
        have hsum : (pl : Int) + (hh : Int) = (q : Int) := by rw [← hhh, ← hq, hVs]; omega
        rw [hV]
        have q1 : ¬ (9223372036854775807 : Int) < (V.size : Int) + V2.size := by omega
        have q2 : ¬ (9223372036854775807 : Int) < ((V.size + V2.size : Nat) : Int) := by omega
        have q3 : (V.size : Int) + V2.size ≤ 9223372036854775807 := by omega
        have w1 := (i64w (x := (q : Int)) (by omega) (by omega)).1
        have w2 := (i64w (x := (q : Int)) (by omega) (by omega)).2
        replace hLg : Kp _ := ⟨hLg⟩
        replace hcat : Kp _ := ⟨hcat⟩
        replace w1 : Kp _ := ⟨w1⟩
        replace w2 : Kp _ := ⟨w2⟩
        have Ic : Kp (∀ W, Below wr.heap.size wr W → W.cell? ⟨g, i, none⟩ = some (.int .i64 (n : Nat))) := ⟨fun W hW => by rw [hW.cell (p := ⟨g, i, none⟩) hgl]; exact hc⟩
        clear hA hI2 htk hle1 hq hll2 hq4 hV hVs hV2 hV2s hhh hmem hnn
        go_wp2_with fail
        replace w1 := w1.out
        replace w2 := w2.out
        go_region_held (fun w' => w'.cell? ⟨g, i, none⟩ = some (.int .i64 (n : Nat))) (go_keep) (first
          | (go_at_call 88; refine (hLg.out _).mono ?_; rintro en w4 ⟨rfl, hw4⟩; subst hw4)
          | (go_at_call 137; refine (hOn.out _ (by first | exact (Below.refl _ _).drew | assumption)).mono ?_; rintro en w5 ⟨rfl, bb⟩; have bn : Below wr.heap.size wr w5 := (Below.refl _ _).drew.trans bb; have oc := Ic.out _ bn; clear bb))
        all_goals
          clear oc w1 w2 hsum
          go_wp2_with fail
          go_roundw
          case rel => exact ⟨i + 1, by omega, by rw [← hcat.out], by go_num, ⟨hb.out.trans (bn.mono hb.out.size)⟩⟩
          case measure => simp [intOf]; omega
      · have hii : ¬ (i : Int) < (m : Int) := by omega
        have e1 : i = m := by omega
        have e2 : bs (als p.ex p.sm (l.take i) pl) = bs (als p.ex p.sm l pl) := by rw [e1, ← hm, List.take_length]
        rw [e2]
        obtain ⟨V, hV⟩ : ∃ V, bs (als p.ex p.sm l pl) = V := ⟨_, rfl⟩
        rw [hV]
        replace hV : Kp _ := ⟨hV⟩
        clear e2
        replace e1 : Kp _ := ⟨e1⟩
        go_wp2_with fail
        go_ret
        exact ⟨by rw [hV.out]; rfl, hb.out⟩
end Go.Proofs.Ytcnbifdlkalimaa
