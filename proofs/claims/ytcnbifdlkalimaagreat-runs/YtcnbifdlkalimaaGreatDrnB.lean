import Derived.Test.YtcnbifdlkalimaaGreatMchC
import Derived.Test.YtcnbifdlkalimaaGreatChkC
import Derived.Deep.QuietTactic
import Derived.BigQuiet
import Derived.Deep.RegionWith
import Derived.Deep.RegionHeld
import Derived.Test.YtcnbifdlkalimaaGreatPlainR
import Derived.Test.YtcnbifdlkalimaaGreatPrg4
import Derived.Laws.StructEq

/-
  The walks of the document's runs: what a program has in hand, a byte as a text, tapes and logs; for every hand that keeps its bounds.
-/
namespace Go.Proofs.YtcnbifdlkalimaaGreat
open Go.RowKit
set_option linter.unusedVariables false
set_option maxRecDepth 100000

/-- block b holds the document's hand -/
structure HandAt (w : World) (b : Nat) (T : Int → ByteArray) (m : Hnd) : Prop where
  lt : b < w.heap.size
  tp : ∀ j : Nat, j < 6 → w.cell? ⟨b, j, none⟩ = some (.string (tl (T j) (m.po j)))
  lo : ∀ j : Nat, j < 6 → w.cell? ⟨b, 6 + j, none⟩ = some (.string (bs (m.lo j)))
  va : ∀ j : Nat, j < 8 → w.cell? ⟨b, 12 + j, none⟩ = some (.int .i64 (m.va j))
  f : ∀ j : Nat, j < 20 → w.frozen? ⟨b, j, none⟩ = false

theorem HandAt.step {w w1 : World} {b : Nat} {T : Int → ByteArray} {m : Hnd} (H : HandAt w b T m) (hb : Below w.heap.size w w1) : HandAt w1 b T m := by
  have key : ∀ k : Nat, w1.cell? ⟨b, k, none⟩ = w.cell? ⟨b, k, none⟩ := fun k => hb.cell (p := ⟨b, k, none⟩) H.lt
  exact ⟨Nat.lt_of_lt_of_le H.lt hb.size, fun j hj => (key _).trans (H.tp j hj), fun j hj => (key _).trans (H.lo j hj), fun j hj => (key _).trans (H.va j hj), fun j hj => by rw [hb.frozen (p := ⟨b, j, none⟩) H.lt]; exact H.f j hj⟩

/-- what of the hand does not lie in memory may be anything -/
theorem HandAt.with {w : World} {b : Nat} {T : Int → ByteArray} {m k : Hnd} (H : HandAt w b T m) (hp : k.po = m.po) (hl : k.lo = m.lo) (hv : k.va = m.va) : HandAt w b T k :=
  ⟨H.lt, fun j hj => by rw [hp]; exact H.tp j hj, fun j hj => by rw [hl]; exact H.lo j hj, fun j hj => by rw [hv]; exact H.va j hj, H.f⟩

theorem HandAt.setVa {w : World} {b : Nat} {T : Int → ByteArray} {m : Hnd} (H : HandAt w b T m) {p : Nat} (hp : p < 8) (y : Int) : HandAt (w.setCell ⟨b, 12 + p, none⟩ (.int .i64 y)) b T { m with va := up m.va p y } := by
  have key : ∀ k : Nat, k ≠ 12 + p → (w.setCell ⟨b, 12 + p, none⟩ (.int .i64 y)).cell? ⟨b, k, none⟩ = w.cell? ⟨b, k, none⟩ := fun k hk => cell_off _ _ _ _ _ (by omega)
  refine ⟨by simpa using H.lt, fun j hj => (key _ (by omega)).trans (H.tp j hj), fun j hj => (key _ (by omega)).trans (H.lo j hj), fun j hj => ?_, fun j hj => by rw [World.frozen?_setCell]; exact H.f j hj⟩
  by_cases e : j = p
  · subst e
    rw [World.cell?_setCell_same _ _ _ (H.va j hj)]
    show _ = some (Value.int .i64 (up m.va (j : Int) y j))
    rw [up_at]
  · rw [key _ (by omega)]
    show _ = some (Value.int .i64 (up m.va (p : Int) y j))
    rw [up_ne (by omega)]
    exact H.va j hj

theorem HandAt.setPo {w : World} {b : Nat} {T : Int → ByteArray} {m : Hnd} (H : HandAt w b T m) {p : Nat} (hp : p < 6) : HandAt (w.setCell ⟨b, p, none⟩ (.string (tl (T p) ((m.po p + 1 : Nat) : Int)))) b T { m with po := up m.po p (m.po p + 1) } := by
  have key : ∀ k : Nat, k ≠ p → (w.setCell ⟨b, p, none⟩ (.string (tl (T p) ((m.po p + 1 : Nat) : Int)))).cell? ⟨b, k, none⟩ = w.cell? ⟨b, k, none⟩ := fun k hk => cell_off _ _ _ _ _ (by omega)
  refine ⟨by simpa using H.lt, fun j hj => ?_, fun j hj => (key _ (by omega)).trans (H.lo j hj), fun j hj => (key _ (by omega)).trans (H.va j hj), fun j hj => by rw [World.frozen?_setCell]; exact H.f j hj⟩
  by_cases e : j = p
  · subst e
    rw [World.cell?_setCell_same _ _ _ (H.tp j hj)]
    show _ = some (Value.string (tl (T j) ((up m.po (j : Int) (m.po j + 1) j : Nat) : Int)))
    rw [up_at]
  · rw [key _ (by omega)]
    show _ = some (Value.string (tl (T j) ((up m.po (p : Int) (m.po p + 1) j : Nat) : Int)))
    rw [up_ne (by omega)]
    exact H.tp j hj

/-- a tape that has nothing left -/
theorem HandAt.over {w : World} {b : Nat} {T : Int → ByteArray} {m : Hnd} (H : HandAt w b T m) {p : Nat} (h : (T p).size ≤ m.po p) : HandAt w b T { m with po := up m.po p (m.po p + 1) } := by
  refine ⟨H.lt, fun j hj => ?_, H.lo, H.va, H.f⟩
  by_cases e : j = p
  · subst e
    show _ = some (Value.string (tl (T j) ((up m.po (j : Int) (m.po j + 1) j : Nat) : Int)))
    rw [up_at, tl_over (by omega), H.tp j hj, tl_over h]
  · show _ = some (Value.string (tl (T j) ((up m.po (p : Int) (m.po p + 1) j : Nat) : Int)))
    rw [up_ne (by omega)]
    exact H.tp j hj

theorem HandAt.setLo {w : World} {b : Nat} {T : Int → ByteArray} {m : Hnd} (H : HandAt w b T m) {p : Nat} (hp : p < 6) (x : Int) : HandAt (w.setCell ⟨b, 6 + p, none⟩ (.string (bs (m.lo p) ++ bs [x]))) b T { m with lo := up m.lo p (m.lo p ++ [x]) } := by
  have key : ∀ k : Nat, k ≠ 6 + p → (w.setCell ⟨b, 6 + p, none⟩ (.string (bs (m.lo p) ++ bs [x]))).cell? ⟨b, k, none⟩ = w.cell? ⟨b, k, none⟩ := fun k hk => cell_off _ _ _ _ _ (by omega)
  refine ⟨by simpa using H.lt, fun j hj => (key _ (by omega)).trans (H.tp j hj), fun j hj => ?_, fun j hj => (key _ (by omega)).trans (H.va j hj), fun j hj => by rw [World.frozen?_setCell]; exact H.f j hj⟩
  by_cases e : j = p
  · subst e
    rw [World.cell?_setCell_same _ _ _ (H.lo j hj)]
    show _ = some (Value.string (bs (up m.lo (j : Int) (m.lo j ++ [x]) j)))
    rw [up_at, bs_append]
  · rw [key _ (by omega)]
    show _ = some (Value.string (bs (up m.lo (p : Int) (m.lo p ++ [x]) j)))
    rw [up_ne (by omega)]
    exact H.lo j hj

theorem conv_byte (W : World) (g : Nat) (x : Int) (h0 : 0 ≤ x) (h1 : x ≤ 255) (hc : W.cell? ⟨g, 0, none⟩ = some (.int .u8 x)) : (convert 81 9 (.slice (some ⟨g, 0, none⟩) 1 1)).run Tryz.prog W = .ok (.string (bs [x])) W := by
  have h := run_convert_bytes_back (P := Tryz.prog) W 81 9 5 ⟨g, 0, none⟩ 1 [UInt8.ofNat x.toNat] Tryz.underlying81 Tryz.underlying5 Tryz.underlying9 (fun j hj => by
    have e : j = 0 := by simp at hj; omega
    subst e
    have hadd : (⟨g, 0, none⟩ : Addr).add 0 = ⟨g, 0, none⟩ := by unfold Addr.add; split <;> simp_all
    rw [hadd, hc]
    simp
    omega)
  exact h

set_option maxHeartbeats 400000 in
theorem byteOf_ref (x : Int) (w : World) (h0 : 0 ≤ x) (h1 : x ≤ 255) : Calls Tryz.prog 62 #[.int .i64 x] w fun e w' => e = .returned (.string (bs [x])) ∧ Below w.heap.size w w' := by
  have hw8 : IntKind.u8.wrap x = x := wrap_byte h0 h1
  go_enter Tryz.func62, Tryz.ntmps62
  go_wp2_with fail
  rw [conv_byte _ _ x h0 h1 (by simp [go_sem])]
  go_wp2_with fail
  go_ret
  exact ⟨rfl, (Below.refl _ _).alloc (Nat.le_refl _) _⟩

set_option maxHeartbeats 800000 in
theorem reckon_ref (op x y : Int) (w : World) (ho : 3 ≤ op ∧ op ≤ 7) (hx : 0 ≤ x ∧ x ≤ 255) (hy : 0 ≤ y ∧ y ≤ 255) :
    Calls Tryz.prog 65 #[.int .i64 op, .int .i64 x, .int .i64 y] w fun e w' => e = .returned (.int .i64 (reckon op x y)) ∧ w' = w := by
  obtain ⟨o1, o2⟩ := ho
  have hm := mul_bd hx hy
  obtain ⟨x1, x2⟩ := hx
  obtain ⟨y1, y2⟩ := hy
  obtain ⟨m1, m2⟩ := hm
  have hcs : op = 3 ∨ op = 4 ∨ op = 5 ∨ op = 6 ∨ op = 7 := by omega
  rcases hcs with rfl | rfl | rfl | rfl | rfl
  · have e : reckon 3 x y = (x + y) % 256 := by unfold reckon; simp
    rw [e]
    go_enter Tryz.func65, Tryz.ntmps65
    go_wp2
    go_ret
    exact ⟨ret_int (by omega), rfl⟩
  · have e : reckon 4 x y = (x + 256 - y) % 256 := by unfold reckon; simp
    rw [e]
    go_enter Tryz.func65, Tryz.ntmps65
    go_wp2
    go_ret
    exact ⟨ret_int (by omega), rfl⟩
  · have e : reckon 5 x y = x * y % 256 := by unfold reckon; simp
    rw [e]
    go_enter Tryz.func65, Tryz.ntmps65
    go_wp2
    go_ret
    exact ⟨ret_int (by omega), rfl⟩
  · by_cases h : x < y
    · have e : reckon 6 x y = 1 := by unfold reckon; simp [h]
      rw [e]
      go_enter Tryz.func65, Tryz.ntmps65
      go_wp2
      go_ret
      exact ⟨rfl, rfl⟩
    · have e : reckon 6 x y = 0 := by unfold reckon; simp [h]
      rw [e]
      go_enter Tryz.func65, Tryz.ntmps65
      go_wp2
      go_ret
      exact ⟨rfl, rfl⟩
  · by_cases h : x = y
    · have e : reckon 7 x y = 1 := by unfold reckon; simp [h]
      have hb : (x == y) = true := beq_iff_eq.2 h
      rw [e]
      go_enter Tryz.func65, Tryz.ntmps65
      go_wp2
      go_ret
      exact ⟨rfl, rfl⟩
    · have e : reckon 7 x y = 0 := by unfold reckon; simp [h]
      have hb : (x == y) = false := beq_eq_false_iff_ne.2 h
      rw [e]
      go_enter Tryz.func65, Tryz.ntmps65
      go_wp2
      go_ret
      exact ⟨rfl, rfl⟩
end Go.Proofs.YtcnbifdlkalimaaGreat

/-
  The walks of the document's runs, second part: a tape is read, a log goes on; for every hand that keeps its bounds.
-/
namespace Go.Proofs.YtcnbifdlkalimaaGreat
open Go.RowKit
set_option linter.unusedVariables false
set_option maxRecDepth 100000

set_option maxHeartbeats 800000 in
theorem draw_ref (b : Nat) (T : Int → ByteArray) (m : Hnd) (l : Nat) (w : World) (H : HandAt w b T m) (hl : l < 6) (hT : (T l).size ≤ maxLen) :
    Calls Tryz.prog 63 #[.pointer (some ⟨b, 0, none⟩), .int .i64 l] w fun e w' => e = .returned (.int .i64 (bv (T l) (m.po l))) ∧ HandAt w' b T { m with po := up m.po l (m.po l + 1) } ∧ Below b w w' := by
  have a0 := H.tp l hl
  have f0 := H.f l (by omega)
  have hlt := H.lt
  have hli : (l : Int) < 6 := by omega
  by_cases hs : (T l).size ≤ m.po l
  · have H1 : Kp _ := ⟨H.over hs⟩
    have hv : bv (T l) (m.po l) = 0 := bv_over (by omega)
    rw [tl_over hs] at a0
    rw [hv]
    clear H hv hs hT
    go_enter Tryz.func63, Tryz.ntmps63
    go_wp2_with fail
    go_ret
    exact ⟨rfl, H1.out, Below.refl _ _⟩
  · have hs2 : m.po l < (T l).size := by omega
    have H1 := H.setPo hl
    have hv := bv_tl (s := T l) (k := m.po l) hs2
    have hz := tl_size_nat (T l) (m.po l)
    have ht := tl_tl (T l) (m.po l)
    obtain ⟨x0, x9⟩ := bv_bd (T l) (m.po l)
    obtain ⟨t, hte⟩ : ∃ t, tl (T l) (m.po l) = t := ⟨_, rfl⟩
    rw [hte] at a0 hv hz ht
    rw [← ht] at H1
    have hz1 : 1 ≤ t.size := by omega
    have hp := bv_nat t 0 hz1
    rw [show ((0 : Nat) : Int) = 0 from rfl, hv] at hp
    obtain ⟨x, hx⟩ : ∃ x, bv (T l) (m.po l) = x := ⟨_, rfl⟩
    rw [hx] at hp x0 x9 ⊢
    have hz2 : t.size ≤ 9223372036854775807 := by unfold maxLen at hT; omega
    have hne : (t.toList == []) = false := by
      rw [ByteArray.toList_eq]
      apply beq_eq_false_iff_ne.2
      intro e
      have : t.data.toList.length = 0 := by rw [e]; rfl
      have h2 : t.data.toList.length = t.size := by simp
      omega
    have eT : tl t 1 = t.extract 1 t.size := rfl
    rw [eT] at H1
    have hB : Kp (Below b w (w.setCell ⟨b, l, none⟩ (.string (t.extract 1 t.size)))) := ⟨(Below.refl b w).setCell (p := ⟨b, l, none⟩) (Nat.le_refl _) _⟩
    replace H1 : Kp _ := ⟨H1⟩
    clear H hv hz ht hte hx hs hs2 hT eT
    go_enter Tryz.func63, Tryz.ntmps63
    go_wp2_with fail
    go_region_with (fail)
    all_goals
      go_wp2_with fail
      go_ret
      exact ⟨rfl, H1.out.step (Below.refl _ _).drew, hB.out.drew⟩

set_option maxHeartbeats 800000 in
theorem tell_ref (b : Nat) (T : Int → ByteArray) (m : Hnd) (l : Nat) (x : Int) (w : World) (H : HandAt w b T m) (hl : l < 6) (h0 : 0 ≤ x) (h1 : x ≤ 255) (hlen : (m.lo l).length ≤ 20000) :
    Calls Tryz.prog 64 #[.pointer (some ⟨b, 0, none⟩), .int .i64 l, .int .i64 x] w fun e w' => e = .returned (.tuple #[]) ∧ HandAt w' b T { m with lo := up m.lo l (m.lo l ++ [x]) } ∧ Below b w w' := by
  have a0 := H.lo l hl
  have hlt := H.lt
  have hli : (l : Int) < 6 := by omega
  have hls := bs_size (m.lo l)
  have hxs := bs_size [x]
  obtain ⟨lg, hlg⟩ : ∃ lg, bs (m.lo l) = lg := ⟨_, rfl⟩
  obtain ⟨xg, hxg⟩ : ∃ xg, bs [x] = xg := ⟨_, rfl⟩
  rw [hlg] at a0 hls
  rw [hxg] at hxs
  have hxl : xg.size = 1 := hxs
  have hs1 : ¬ (9223372036854775807 : Int) < (lg.size : Int) + xg.size := by omega
  have hs2 : ¬ (9223372036854775807 : Int) < ((lg.size + xg.size : Nat) : Int) := by omega
  have hs3 : (lg.size : Int) + xg.size ≤ 9223372036854775807 := by omega
  have hby := fun W => byteOf_ref x W h0 h1
  rw [hxg] at hby
  replace hby : Kp _ := ⟨hby⟩
  have H' : Kp _ := ⟨H⟩
  replace hlg : Kp _ := ⟨hlg⟩
  replace hxg : Kp _ := ⟨hxg⟩
  clear H hls hxs
  go_enter Tryz.func64, Tryz.ntmps64
  go_wp2_with fail
  go_region_with ((go_at_call 62; refine (hby.out _).mono ?_; rintro e w1 ⟨rfl, b1⟩; have b2 : Below w.heap.size w w1 := (Below.refl _ _).drew.trans b1; have H1 := H'.out.step b2; have c0 := H1.lo l hl; rw [hlg.out] at c0; have g0 := H1.f (6 + l) (by omega); have hl1 := H1.lt))
  all_goals
    go_wp2_with fail
    first | go_end0 | refine bodyPost_ret (results_none rfl _ _ _) rfl ?_
    have hR := H1.setLo hl x
    rw [hlg.out, hxg.out] at hR
    exact ⟨rfl, hR, (b2.mono (Nat.le_of_lt hlt)).setCell (Nat.le_refl _) _⟩
end Go.Proofs.YtcnbifdlkalimaaGreat

/-
  The walks of the document's runs, third part: one instruction; for every hand at a place of a file that is let through.
-/
namespace Go.Proofs.YtcnbifdlkalimaaGreat
open Go.RowKit
set_option linter.unusedVariables false
set_option maxRecDepth 100000

/-- what one instruction leaves -/
def DoesPost (c : ByteArray) (b : Nat) (T : Int → ByteArray) (m : Hnd) (w : World) (e : Ending) (w' : World) : Prop :=
  e = .returned (.tuple #[.string (stk (stepM c T m).st (stepM c T m).sp), .int .i64 (stepM c T m).pl]) ∧ HandAt w' b T (stepM c T m) ∧ Below b w w'

theorem does_end {c : ByteArray} {b : Nat} {T : Int → ByteArray} {m M : Hnd} {w w' : World} {s : ByteArray} {p : Int} (e : stepM c T m = M) (hs : s = stk M.st M.sp) (hp : p = M.pl) (H : HandAt w' b T M) (hB : Below b w w') : DoesPost c b T m w (.returned (.tuple #[.string s, .int .i64 p])) w' := by
  subst e
  subst hs
  subst hp
  exact ⟨rfl, H, hB⟩

set_option maxHeartbeats 6400000 in
theorem does_ref (b : Nat) (n : Int) (t v c : ByteArray) (T : Int → ByteArray) (h : Nat → Int) (m : Hnd) (w : World) (H : HandAt w b T m) (F : RunF c v n T) (P : Kp (Through c v t n h)) (S : Kp (Sound c h m)) (V : Kp (Vals m)) (hlt : m.pl < half c) (hlen : Kp (∀ l, (m.lo l).length ≤ 20000)) :
    Calls Tryz.prog 26 #[.agg #[.int .i64 n, .string t, .string v, .string c, .int .i64 (half c)], .pointer (some ⟨b, 0, none⟩), .int .i64 m.pl, .string (stk m.st m.sp)] w (DoesPost c b T m w) := by
  have hc := F.hc
  have hK := F.hK
  have hp0 := S.out.r0
  have hsp := sp_bd (T := T) P.out S.out hlt
  have h11 := P.out.ops m.pl hp0 hlt
  obtain ⟨x0, x9⟩ := bv_bd c (2 * m.pl)
  obtain ⟨y0, y9⟩ := bv_bd c (2 * m.pl + 1)
  obtain ⟨a, ha⟩ : ∃ a : Nat, bv c (2 * m.pl + 1) = a := ⟨(bv c (2 * m.pl + 1)).toNat, by omega⟩
  obtain ⟨x, hx⟩ : ∃ x, bv c (2 * m.pl) = x := ⟨_, rfl⟩
  have a9 : (a : Int) ≤ 255 := by omega
  have htk : takesAt c m.pl = takesF x := by unfold takesAt; rw [hx]
  have hgv : givesAt c m.pl = givesF x := by unfold givesAt; rw [hx]
  rw [htk, hgv] at hsp
  have hvr : x = 1 ∨ x = 2 → a < 8 := fun k => by have := (P.out.vr m.pl hp0 hlt (by rw [hx]; exact k)).1; have := F.hv; omega
  have hlv : x = 10 ∨ x = 11 → a < 6 := fun k => by have q := P.out.lv m.pl hp0 hlt (by rw [hx]; exact k); unfold Lv at q; have := F.hn; omega
  have hA := fun w1 => uarg_any n m.pl t v c w1 hc hp0 hlt
  have hO := fun w1 => uop_any n m.pl t v c w1 hc hp0 hlt
  rw [ha] at hA
  rw [hx] at hO h11 x0 x9
  obtain ⟨s1, s2, s3, s4⟩ := hsp
  obtain ⟨sp, hspe⟩ : ∃ sp : Nat, m.sp = sp := ⟨m.sp.toNat, by omega⟩
  have hsz := stk_size m.st m.sp
  obtain ⟨sk, hsk⟩ : ∃ sk, stk m.st m.sp = sk := ⟨_, rfl⟩
  rw [hsk] at hsz ⊢
  have hszn : sk.size = sp := by rw [hsz, hspe]; omega
  have htop : Kp (1 ≤ sp → ∀ hi : sp - 1 < sk.size, ((sk[sp - 1]'hi).toNat : Int) = m.st (m.sp - 1)) := ⟨fun h1 hi => by
    rw [bv_nat sk (sp - 1) hi, ← hsk, show ((sp - 1 : Nat) : Int) = m.sp - 1 from by omega]
    exact stk_top (by omega) (by omega) (V.out.st _)⟩
  have hsec : Kp (2 ≤ sp → ∀ hi : sp - 2 < sk.size, ((sk[sp - 2]'hi).toNat : Int) = m.st (m.sp - 2)) := ⟨fun h1 hi => by
    rw [bv_nat sk (sp - 2) hi, ← hsk, show ((sp - 2 : Nat) : Int) = m.sp - 2 from by omega]
    exact stk_top (by omega) (by omega) (V.out.st _)⟩
  obtain ⟨pl, hpl⟩ : ∃ pl, m.pl = pl := ⟨_, rfl⟩
  have pl2 : pl ≤ 200 := by omega
  have pl0 : 0 ≤ pl := by omega
  rw [hpl] at hA hO ⊢
  have hspi : (sp : Int) ≤ 8 := by omega
  have REST : Kp ((takesF x ≤ (sp : Int)) ∧ ((sp : Int) - takesF x + givesF x ≤ 8) ∧ (x = 1 ∨ x = 2 → a < 8) ∧ (x = 10 ∨ x = 11 → a < 6) ∧ bv c (2 * m.pl) = x ∧ bv c (2 * m.pl + 1) = a ∧ 0 ≤ x ∧ x ≤ 11 ∧ m.pl = pl ∧ m.sp = sp) := ⟨by omega, by omega, hvr, hlv, hx, ha, x0, h11, hpl, hspe⟩
  replace hA : Kp _ := ⟨hA⟩
  replace hO : Kp _ := ⟨hO⟩
  have H' : Kp _ := ⟨H⟩
  have O0 := Own.new5 w (.int .i64 n) (.string t) (.string v) (.string c) (.int .i64 (half c)) 54
  have hl0 := H.lt
  replace hsk : Kp _ := ⟨hsk⟩
  replace F : Kp _ := ⟨F⟩
  clear s1 s2 s3 s4 htk hgv y0 y9 x0 x9 h11 hvr hlv hx ha hspe hpl hc hK hp0 hsz H hlt
  go_enter Tryz.func26, Tryz.ntmps26
  go_wp2_with fail
  refine (hA.out _).mono ?_
  rintro e w1 ⟨rfl, b1⟩
  have O1 := O0.step b1
  have hB1 : Below w.heap.size w w1 := ((Below.refl _ _).alloc (Nat.le_refl _) _).trans (b1.mono (by simp))
  have u0 := O1.c 0 _ rfl
  have u1 := O1.c 1 _ rfl
  have u2 := O1.c 2 _ rfl
  have u3 := O1.c 3 _ rfl
  have u4 := O1.c 4 _ rfl
  clear O0 b1
  go_wp2_with fail
  refine (hO.out _).mono ?_
  rintro e w2 ⟨rfl, b2⟩
  have O2 : Kp _ := ⟨O1.step b2⟩
  have hB2 : Kp (Below w.heap.size w w2) := ⟨hB1.trans (b2.mono hB1.size)⟩
  have H2 : Kp _ := ⟨H'.out.step hB2.out⟩
  have hl2 := H2.out.lt
  clear O1 b2 hB1 u0 u1 u2 u3 u4 H'
  obtain ⟨s1, s4, hvr, hlv, hx, ha, x0, h11, hple, hspe⟩ := REST.out
  replace hvr : Kp _ := ⟨hvr⟩
  replace hlv : Kp _ := ⟨hlv⟩
  replace hx : Kp _ := ⟨hx⟩
  replace ha : Kp _ := ⟨ha⟩
  replace hple : Kp _ := ⟨hple⟩
  replace hspe : Kp _ := ⟨hspe⟩
  clear REST hA
  have hBb : Kp (Below b w w2) := ⟨hB2.out.mono (Nat.le_of_lt hl0)⟩
  have hcs : x = 0 ∨ x = 1 ∨ x = 2 ∨ x = 8 ∨ x = 9 ∨ x = 10 ∨ x = 11 ∨ (3 ≤ x ∧ x ≤ 7) := by omega
  rcases hcs with rfl | rfl | rfl | rfl | rfl | rfl | rfl | hx37
  · have hby := fun W => byteOf_ref a W (by omega) a9
    have hxs := bs_size [(a : Int)]
    obtain ⟨xg, hxg⟩ : ∃ xg, bs [(a : Int)] = xg := ⟨_, rfl⟩
    rw [hxg] at hby hxs
    have hxl : xg.size = 1 := hxs
    have hs1 : ¬ (9223372036854775807 : Int) < (sk.size : Int) + xg.size := by omega
    have hs2 : ¬ (9223372036854775807 : Int) < ((sk.size + xg.size : Nat) : Int) := by omega
    replace hby : Kp _ := ⟨hby⟩
    replace hxg : Kp _ := ⟨hxg⟩
    clear hxs
    go_wp2_with fail
    refine (hby.out _).mono ?_
    rintro e w3 ⟨rfl, b3⟩
    go_wp2_with fail
    go_ret2
    exact does_end (step_0 hx.out) (by rw [ha.out, ← hxg.out, ← hsk.out]; exact (stk_push (a : Int) (by rw [hspe.out]; omega)).symm) (by rw [← hple.out]) ((H2.out.step b3).with rfl rfl rfl) (hBb.out.trans (b3.mono (Nat.le_of_lt hl2)))
  · have ha8 : a < 8 := hvr.out (.inl rfl)
    have hai : (a : Int) < 8 := by omega
    have q0 := H2.out.va a ha8
    obtain ⟨v0, v9⟩ := V.out.va a
    obtain ⟨y, hy⟩ : ∃ y, m.va a = y := ⟨_, rfl⟩
    rw [hy] at q0 v0 v9
    have hby := fun W => byteOf_ref y W v0 v9
    have hxs := bs_size [y]
    obtain ⟨xg, hxg⟩ : ∃ xg, bs [y] = xg := ⟨_, rfl⟩
    rw [hxg] at hby hxs
    have hxl : xg.size = 1 := hxs
    have hs1 : ¬ (9223372036854775807 : Int) < (sk.size : Int) + xg.size := by omega
    have hs2 : ¬ (9223372036854775807 : Int) < ((sk.size + xg.size : Nat) : Int) := by omega
    replace hby : Kp _ := ⟨hby⟩
    replace hxg : Kp _ := ⟨hxg⟩
    replace hy : Kp _ := ⟨hy⟩
    clear hxs
    go_wp2_with fail
    refine (hby.out _).mono ?_
    rintro e w3 ⟨rfl, b3⟩
    go_wp2_with fail
    go_ret2
    exact does_end (step_1 hx.out) (by rw [ha.out, ← hxg.out, ← hy.out, ← hsk.out]; exact (stk_push _ (by rw [hspe.out]; omega)).symm) (by rw [← hple.out]) ((H2.out.step b3).with rfl rfl rfl) (hBb.out.trans (b3.mono (Nat.le_of_lt hl2)))
  · have ha8 : a < 8 := hvr.out (.inr rfl)
    have hai : (a : Int) < 8 := by omega
    simp [takesF] at s1
    obtain ⟨q, hq⟩ : ∃ q : Nat, sp = q + 1 := ⟨sp - 1, by omega⟩
    have hi : q < sk.size := by omega
    have q0 := H2.out.va a ha8
    have f0 := H2.out.f (12 + a) (by omega)
    have hT := htop.out (by omega) (by omega)
    have hT2 : ((sk[q]'hi).toNat : Int) = m.st (m.sp - 1) := by rw [← hT]; congr 3; omega
    obtain ⟨v0, v9⟩ := V.out.st (m.sp - 1)
    obtain ⟨y, hy⟩ : ∃ y, m.st (m.sp - 1) = y := ⟨_, rfl⟩
    rw [hy] at hT2 v0 v9
    have hq1 : (sk.size : Int) - 1 = q := by omega
    have hqi : (q : Int) < sk.size := by omega
    have H3 := H2.out.setVa ha8 y
    have hB3 := hBb.out.setCell (p := ⟨b, 12 + a, none⟩) (Nat.le_refl _) (.int .i64 y)
    replace H3 : Kp _ := ⟨H3⟩
    replace hB3 : Kp _ := ⟨hB3⟩
    replace hy : Kp _ := ⟨hy⟩
    have hcut : Kp (sk.extract 0 q = stk m.st (m.sp - 1)) := ⟨by rw [← hsk.out, show q = (m.sp - 1).toNat from by have := hspe.out; omega]; exact stk_pop (by have := hspe.out; omega)⟩
    have hz9 : sk.size ≤ 8 := by omega
    have hwA : wrap64 ((sp : Int) - 1) = q := by unfold wrap64; omega
    clear hT htop hsec hszn hq hspi s1 s4
    go_wp2_with fail
    go_region
    all_goals
      go_wp2_with fail
      go_ret2
      exact does_end (step_2 hx.out) (by rw [hcut.out]) (by rw [← hple.out]) (by rw [ha.out, hy.out]; exact (H3.out.step (Below.refl _ _).drew).with rfl rfl rfl) hB3.out.drew
  · go_wp2_with fail
    go_ret2
    exact does_end (step_8 hx.out) hsk.out.symm (by rw [ha.out]) (H2.out.with rfl rfl rfl) hBb.out
  · simp [takesF] at s1
    have hi : sp - 1 < sk.size := by omega
    have hT := htop.out (by omega) hi
    obtain ⟨v0, v9⟩ := V.out.st (m.sp - 1)
    obtain ⟨y, hy⟩ : ∃ y, m.st (m.sp - 1) = y := ⟨_, rfl⟩
    rw [hy] at hT v0 v9
    have e1 : ((sp : Int) - 1).toNat = sp - 1 := by omega
    have hszi : (sk.size : Int) = sp := by omega
    replace hy : Kp _ := ⟨hy⟩
    have hcut : Kp (sk.extract 0 (sp - 1) = stk m.st (m.sp - 1)) := ⟨by rw [← hsk.out, show sp - 1 = (m.sp - 1).toNat from by have := hspe.out; omega]; exact stk_pop (by have := hspe.out; omega)⟩
    by_cases hz : y = 0
    · have hz1 : (y == 0) = true := beq_iff_eq.2 hz
      go_wp2_with fail
      go_ret2
      exact does_end (step_9 hx.out) (by rw [hcut.out]) (by rw [if_pos (by rw [hy.out]; exact hz), ha.out]) (H2.out.with rfl rfl rfl) hBb.out
    · have hz1 : (y == 0) = false := beq_eq_false_iff_ne.2 hz
      go_wp2_with fail
      go_ret2
      exact does_end (step_9 hx.out) (by rw [hcut.out]) (by rw [if_neg (by rw [hy.out]; exact hz), ← hple.out]) (H2.out.with rfl rfl rfl) hBb.out
  · have ha6 : a < 6 := hlv.out (.inl rfl)
    have hD := draw_ref b T m a w2 H2.out ha6 (F.out.ht a ha6)
    obtain ⟨v0, v9⟩ := bv_bd (T a) (m.po a)
    obtain ⟨y, hy⟩ : ∃ y, bv (T a) (m.po a) = y := ⟨_, rfl⟩
    rw [hy] at hD v0 v9
    have hby := fun W => byteOf_ref y W v0 v9
    have hxs := bs_size [y]
    obtain ⟨xg, hxg⟩ : ∃ xg, bs [y] = xg := ⟨_, rfl⟩
    rw [hxg] at hby hxs
    have hxl : xg.size = 1 := hxs
    have hs1 : ¬ (9223372036854775807 : Int) < (sk.size : Int) + xg.size := by omega
    have hs2 : ¬ (9223372036854775807 : Int) < ((sk.size + xg.size : Nat) : Int) := by omega
    replace hby : Kp _ := ⟨hby⟩
    replace hxg : Kp _ := ⟨hxg⟩
    replace hy : Kp _ := ⟨hy⟩
    replace hD : Kp _ := ⟨hD⟩
    clear hxs
    go_wp2_with fail
    refine hD.out.mono ?_
    rintro e w3 ⟨rfl, H3, b3⟩
    go_wp2_with fail
    refine (hby.out _).mono ?_
    rintro e w4 ⟨rfl, b4⟩
    have hl3 := H3.lt
    go_wp2_with fail
    go_ret2
    exact does_end (step_10 hx.out) (by rw [ha.out, hy.out, ← hxg.out, ← hsk.out]; exact (stk_push _ (by rw [hspe.out]; omega)).symm) (by rw [← hple.out]) (by rw [ha.out]; exact (H3.step b4).with rfl rfl rfl) ((hBb.out.trans b3).trans (b4.mono (Nat.le_of_lt hl3)))
  · have ha6 : a < 6 := hlv.out (.inr rfl)
    simp [takesF] at s1
    have hi : sp - 1 < sk.size := by omega
    have hT := htop.out (by omega) hi
    obtain ⟨v0, v9⟩ := V.out.st (m.sp - 1)
    obtain ⟨y, hy⟩ : ∃ y, m.st (m.sp - 1) = y := ⟨_, rfl⟩
    rw [hy] at hT v0 v9
    have e1 : ((sp : Int) - 1).toNat = sp - 1 := by omega
    have hszi : (sk.size : Int) = sp := by omega
    replace hy : Kp _ := ⟨hy⟩
    have hcut : Kp (sk.extract 0 (sp - 1) = stk m.st (m.sp - 1)) := ⟨by rw [← hsk.out, show sp - 1 = (m.sp - 1).toNat from by have := hspe.out; omega]; exact stk_pop (by have := hspe.out; omega)⟩
    have hD := tell_ref b T m a y w2 H2.out ha6 v0 v9 (hlen.out a)
    replace hD : Kp _ := ⟨hD⟩
    go_wp2_with fail
    refine hD.out.mono ?_
    rintro e w3 ⟨rfl, H3, b3⟩
    go_wp2_with fail
    go_ret2
    exact does_end (step_11 hx.out) (by rw [hcut.out]) (by rw [← hple.out]) (by rw [ha.out, hy.out]; exact H3.with rfl rfl rfl) (hBb.out.trans b3)
  · have htk : takesF x = 2 := by unfold takesF; rw [if_neg (by omega), if_neg (by omega)]
    rw [htk] at s1
    obtain ⟨q, hq⟩ : ∃ q : Nat, sp = q + 2 := ⟨sp - 2, by omega⟩
    have hi : q + 1 < sk.size := by omega
    have hj : q < sk.size := by omega
    have hT0 := htop.out (by omega) (by omega)
    have hT : ((sk[q + 1]'hi).toNat : Int) = m.st (m.sp - 1) := by rw [← hT0]; congr 3; omega
    have hS0 := hsec.out (by omega) (by omega)
    have hS : ((sk[q]'hj).toNat : Int) = m.st (m.sp - 2) := by rw [← hS0]; congr 3; omega
    clear hT0 hS0
    have w1v := V.out.st (m.sp - 1)
    have w2v := V.out.st (m.sp - 2)
    obtain ⟨y, hy⟩ : ∃ y, m.st (m.sp - 1) = y := ⟨_, rfl⟩
    obtain ⟨z, hz⟩ : ∃ z, m.st (m.sp - 2) = z := ⟨_, rfl⟩
    rw [hy] at hT w1v
    rw [hz] at hS w2v
    have hR := fun W => reckon_ref x z y W hx37 w2v w1v
    have hrv := reckon_val x z y
    obtain ⟨r, hr⟩ : ∃ r, reckon x z y = r := ⟨_, rfl⟩
    rw [hr] at hR hrv
    have hby := fun W => byteOf_ref r W hrv.1 hrv.2
    have hxs := bs_size [r]
    obtain ⟨xg, hxg⟩ : ∃ xg, bs [r] = xg := ⟨_, rfl⟩
    rw [hxg] at hby hxs
    have hxl : xg.size = 1 := hxs
    have hq1 : (sk.size : Int) - 1 = ((q + 1 : Nat) : Int) := by omega
    have hq2 : (sk.size : Int) - 2 = (q : Int) := by omega
    have hqi : ((q + 1 : Nat) : Int) < sk.size := by omega
    have hqj : (q : Int) < sk.size := by omega
    obtain ⟨sc, hsc⟩ : ∃ sc, sk.extract 0 q = sc := ⟨_, rfl⟩
    have hscl : sc.size ≤ 8 := by rw [← hsc, ByteArray.size_extract]; omega
    have hs1 : ¬ (9223372036854775807 : Int) < (sc.size : Int) + xg.size := by omega
    have hs2 : ¬ (9223372036854775807 : Int) < ((sc.size + xg.size : Nat) : Int) := by omega
    have hfin : Kp (sc ++ xg = stk (up m.st (m.sp - 2) (reckon x (m.st (m.sp - 2)) (m.st (m.sp - 1)))) (m.sp - 1)) := ⟨by
      rw [hy, hz, hr, ← hsc, ← hxg, ← hsk.out, show q = (m.sp - 2).toNat from by have := hspe.out; omega]
      exact stk_two _ (by have := hspe.out; omega)⟩
    have u0 := O2.out.c 0 _ rfl
    have u1 := O2.out.c 1 _ rfl
    have u2 := O2.out.c 2 _ rfl
    have u3 := O2.out.c 3 _ rfl
    have u4 := O2.out.c 4 _ rfl
    replace hby : Kp _ := ⟨hby⟩
    replace hxg : Kp _ := ⟨hxg⟩
    replace hy : Kp _ := ⟨hy⟩
    replace hz : Kp _ := ⟨hz⟩
    replace hr : Kp _ := ⟨hr⟩
    replace hR : Kp _ := ⟨hR⟩
    obtain ⟨o1, o2⟩ := hx37
    have nx0 : (x == 0) = false := beq_eq_false_iff_ne.2 (by omega)
    have nx1 : (x == 1) = false := beq_eq_false_iff_ne.2 (by omega)
    have nx2 : (x == 2) = false := beq_eq_false_iff_ne.2 (by omega)
    have nx8 : (x == 8) = false := beq_eq_false_iff_ne.2 (by omega)
    have nx9 : (x == 9) = false := beq_eq_false_iff_ne.2 (by omega)
    have nx10 : (x == 10) = false := beq_eq_false_iff_ne.2 (by omega)
    have nx11 : (x == 11) = false := beq_eq_false_iff_ne.2 (by omega)
    have hz9 : sk.size ≤ 8 := by omega
    have hwA : wrap64 ((sp : Int) - 1) = ((q + 1 : Nat) : Int) := by unfold wrap64; omega
    have hwB : wrap64 ((sp : Int) - 2) = q := by unfold wrap64; omega
    have hwC : IntKind.i64.wrap ((sp : Int) - 1) = ((q + 1 : Nat) : Int) := by rw [IntKind.wrap_i64]; omega
    have hwD : IntKind.i64.wrap ((sp : Int) - 2) = q := by rw [IntKind.wrap_i64]; omega
    have hz1 : wrap64 z = z := by unfold wrap64; omega
    have hz2 : IntKind.i64.wrap z = z := by rw [IntKind.wrap_i64]; omega
    have hy1 : wrap64 y = y := by unfold wrap64; omega
    have hy2 : IntKind.i64.wrap y = y := by rw [IntKind.wrap_i64]; omega
    clear hxs hrv w1v w2v htop hsec hszn hq hspi s1 s4 htk
    go_wp2_with fail
    go_region_held (fun w' => w'.cell? ⟨w.heap.size, 0, none⟩ = some (.int .i64 n) ∧ w'.cell? ⟨w.heap.size, 1, none⟩ = some (.string t) ∧ w'.cell? ⟨w.heap.size, 2, none⟩ = some (.string v) ∧ w'.cell? ⟨w.heap.size, 3, none⟩ = some (.string c) ∧ w'.cell? ⟨w.heap.size, 4, none⟩ = some (.int .i64 (half c))) (go_keep) (first
      | (go_at_call 65; (try rw [hz1]); (try rw [hz2]); (try rw [hy1]); (try rw [hy2]); refine (hR.out _).mono ?_; rintro e w4 ⟨rfl, hw4⟩; subst hw4)
      | (go_at_call 20; refine (hO.out _).mono ?_; rintro e w3 ⟨rfl, b3⟩; have b3' : Below w2.heap.size w2 w3 := (Below.refl _ _).drew.trans b3; have O3 := O2.out.step b3'; have c0 := O3.c 0 _ rfl; have c1 := O3.c 1 _ rfl; have c2 := O3.c 2 _ rfl; have c3 := O3.c 3 _ rfl; have c4 := O3.c 4 _ rfl))
    all_goals
      have H4 : Kp _ := ⟨H2.out.step b3'⟩
      have hl4 := H4.out.lt
      have hB4 : Kp (Below b w w4) := ⟨hBb.out.trans (b3'.mono (Nat.le_of_lt hl2))⟩
      clear c0 c1 c2 c3 c4 u0 u1 u2 u3 u4 O3 b3 b3' O2 H2 hBb hR hO hT hS
      go_wp2_with fail
      go_region_with ((go_at_call 62; refine (hby.out _).mono ?_; rintro e w5 ⟨rfl, b5⟩; have b6 : Below w4.heap.size w4 w5 := (Below.refl _ _).drew.trans b5))
      all_goals
        go_wp2_with fail
        go_ret2
        exact does_end (step_two (by rw [hx.out]; omega)) (by rw [hx.out]; exact hfin.out) (by rw [← hple.out]) ((H4.out.step b6).with rfl rfl rfl) (hB4.out.trans (b6.mono (Nat.le_of_lt hl4)))
end Go.Proofs.YtcnbifdlkalimaaGreat

/-
  The walks of the document's runs, last part: what is told of a run; for every text, all tapes and every fuel.
-/
namespace Go.Proofs.YtcnbifdlkalimaaGreat
open Go.RowKit
set_option linter.unusedVariables false
set_option maxRecDepth 100000

/-- a result as a value -/
def resD (en st : Int) (y : Nat → ByteArray) (v : ByteArray) : Value := .agg #[.int .i64 en, .int .i64 st, .string (y 0), .string (y 1), .string (y 2), .string (y 3), .string (y 4), .string (y 5), .string v]

theorem ResAt.boxD (w : World) (t : TypeId) (en st : Int) (y : Nat → ByteArray) (v : ByteArray) : ResAt (w.alloc (.cells #[.int .i64 en, .int .i64 st, .string (y 0), .string (y 1), .string (y 2), .string (y 3), .string (y 4), .string (y 5), .string v] t)) w.heap.size en st y v := by
  refine ⟨by simp, by simp [go_sem], by simp [go_sem], fun j hj => ?_, by simp [go_sem], fun j hj => ?_⟩
  · match j with
    | 0 => simp [go_sem]
    | 1 => simp [go_sem]
    | 2 => simp [go_sem]
    | 3 => simp [go_sem]
    | 4 => simp [go_sem]
    | 5 => simp [go_sem]
    | j + 6 => omega
  · simp [go_sem]

set_option maxHeartbeats 1600000 in
theorem result_ref (b : Nat) (T : Int → ByteArray) (m : Hnd) (en st : Int) (k : Nat) (w : World) (H : HandAt w b T m) (V : Kp (Vals m)) (hk : k ≤ 8) :
    Calls Tryz.prog 25 #[.pointer (some ⟨b, 0, none⟩), .int .i64 en, .int .i64 st, .int .i64 k] w fun e w' => e = .returned (resD en st (fun j => bs (m.lo j)) (bs (lst m.va k))) ∧ Below w.heap.size w w' := by
  have hl := H.lt
  have l0 := H.lo 0 (by omega)
  have l1 := H.lo 1 (by omega)
  have l2 := H.lo 2 (by omega)
  have l3 := H.lo 3 (by omega)
  have l4 := H.lo 4 (by omega)
  have l5 := H.lo 5 (by omega)
  obtain ⟨y, hy⟩ : ∃ y : Nat → ByteArray, ∀ j : Nat, bs (m.lo j) = y j := ⟨_, fun _ => rfl⟩
  rw [hy] at l0 l1 l2 l3 l4 l5
  have hyF : Kp ((fun j : Nat => bs (m.lo j)) = y) := ⟨by funext j; exact hy j⟩
  rw [hyF.out]
  obtain ⟨w0, hw0⟩ : ∃ w0, w0 = (w.alloc (.cells #[.int .i64 0, .int .i64 0, .string { data := #[] }, .string { data := #[] }, .string { data := #[] }, .string { data := #[] }, .string { data := #[] }, .string { data := #[] }, .string { data := #[] }] 37)).alloc (.cells #[.int .i64 en, .int .i64 st, .string (y 0), .string (y 1), .string (y 2), .string (y 3), .string (y 4), .string (y 5), .string { data := #[] }] 37) := ⟨_, rfl⟩
  have X0 : ResAt w0 w.heap.size 0 0 (fun _ => { data := #[] }) { data := #[] } := by rw [hw0]; exact (ResAt.new w _ 0 0).step ((Below.refl _ _).alloc (Nat.le_refl _) _)
  have Y0 : ResAt w0 (w.heap.size + 1) en st y { data := #[] } := by
    rw [hw0]
    have := ResAt.boxD (w.alloc (.cells #[.int .i64 0, .int .i64 0, .string { data := #[] }, .string { data := #[] }, .string { data := #[] }, .string { data := #[] }, .string { data := #[] }, .string { data := #[] }, .string { data := #[] }] 37)) 37 en st y { data := #[] }
    simpa using this
  have hB0 : Below w.heap.size w w0 := by rw [hw0]; exact ((Below.refl _ _).alloc (Nat.le_refl _) _).alloc (by simp) _
  replace hw0 : Kp _ := ⟨hw0⟩
  replace X0 : Kp _ := ⟨X0⟩
  replace Y0 : Kp _ := ⟨Y0⟩
  replace hB0 : Kp _ := ⟨hB0⟩
  have H' : Kp _ := ⟨H⟩
  have hki : (k : Int) ≤ 8 := by omega
  clear H hy
  go_enter Tryz.func25, Tryz.ntmps25
  go_wp2_with fail
  rw [← hw0.out]
  clear hw0 l0 l1 l2 l3 l4 l5
  go_loopw [10] (fun iv wr => ∃ i : Nat, i ≤ k ∧ iv = .int .i64 i ∧ Kp (ResAt wr w.heap.size 0 0 (fun _ => { data := #[] }) { data := #[] }) ∧ Kp (ResAt wr (w.heap.size + 1) en st y (bs (lst m.va i))) ∧ Kp (Below w.heap.size w wr)) (fun iv _ => k - (intOf iv).toNat)
  case atStart => exact ⟨0, by omega, rfl, X0, Y0, hB0⟩
  case round =>
    clear X0 Y0 hB0
    obtain ⟨i, hi, rfl, X1, Y1, hB1⟩ := hrel
    have hyl := Y1.out.lt
    by_cases hik : i < k
    · have hii : (i : Int) < k := by omega
      have hi8 : (i : Int) < 8 := by omega
      have H1 := H'.out.step hB1.out
      have q0 := H1.va i (by omega)
      have cv := Y1.out.cv
      have fv := Y1.out.f 8 (by omega)
      have hvs := bs_size (lst m.va i)
      rw [lst_len] at hvs
      obtain ⟨x0, x9⟩ := V.out.va i
      obtain ⟨x, hx⟩ : ∃ x, m.va i = x := ⟨_, rfl⟩
      rw [hx] at q0 x0 x9
      have hby := fun W => byteOf_ref x W x0 x9
      have hxs := bs_size [x]
      obtain ⟨xg, hxg⟩ : ∃ xg, bs [x] = xg := ⟨_, rfl⟩
      obtain ⟨vg, hvg⟩ : ∃ vg, bs (lst m.va i) = vg := ⟨_, rfl⟩
      rw [hxg] at hby hxs
      rw [hvg] at cv hvs
      have hxl : xg.size = 1 := hxs
      have hs1 : ¬ (9223372036854775807 : Int) < (vg.size : Int) + xg.size := by omega
      have hs2 : ¬ (9223372036854775807 : Int) < ((vg.size + xg.size : Nat) : Int) := by omega
      have hnx : Kp (vg ++ xg = bs (lst m.va (i + 1))) := ⟨by rw [← hvg, ← hxg, lst_succ, bs_append, hx]⟩
      replace hby : Kp _ := ⟨hby⟩
      replace hvg : Kp _ := ⟨hvg⟩
      clear hxs hvs H1 hxg hx
      go_wp2_with fail
      go_region_with ((go_at_call 62; refine (hby.out _).mono ?_; rintro e w1 ⟨rfl, b1⟩; have b2 : Below wr.heap.size wr w1 := (Below.refl _ _).drew.trans b1; have X2 := X1.out.step b2; have Y2 := Y1.out.step b2; have dv := Y2.cv; rw [hvg.out] at dv; have gv := Y2.f 8 (by omega); have hy2 := Y2.lt))
      all_goals
        have Y3 := Y2.setVars (vg ++ xg)
        rw [hnx.out] at Y3
        have X3 := X2.but ((But.refl (w.heap.size + 1) w1.heap.size w1).setCell 8 (.string (vg ++ xg))) (by omega)
        have hB3 := (hB1.out.trans (b2.mono hB1.out.size)).setCell (p := ⟨w.heap.size + 1, 8, none⟩) (by show w.heap.size ≤ w.heap.size + 1; omega) (.string (vg ++ xg))
        rw [hnx.out] at X3 hB3
        rw [hnx.out]
        replace Y3 : Kp _ := ⟨Y3⟩
        replace X3 : Kp _ := ⟨X3⟩
        replace hB3 : Kp _ := ⟨hB3⟩
        clear X2 Y2 b1 b2 X1 Y1 hB1 dv gv
        go_wp2_with fail
        go_roundw
        case rel => exact ⟨i + 1, by omega, by go_num, X3, Y3, hB3⟩
        case measure => simp [intOf]; omega
    · have e : i = k := by omega
      subst e
      have d0 := Y1.out.c0
      have d1 := Y1.out.c1
      have d2 := Y1.out.cl 0 (by omega)
      have d3 := Y1.out.cl 1 (by omega)
      have d4 := Y1.out.cl 2 (by omega)
      have d5 := Y1.out.cl 3 (by omega)
      have d6 := Y1.out.cl 4 (by omega)
      have d7 := Y1.out.cl 5 (by omega)
      have d8 := Y1.out.cv
      have r0 := X1.out.c0
      have r1 := X1.out.c1
      have r2 := X1.out.cl 0 (by omega)
      have r3 := X1.out.cl 1 (by omega)
      have r4 := X1.out.cl 2 (by omega)
      have r5 := X1.out.cl 3 (by omega)
      have r6 := X1.out.cl 4 (by omega)
      have r7 := X1.out.cl 5 (by omega)
      have r8 := X1.out.cv
      have f0 := X1.out.f 0 (by omega)
      have f1 := X1.out.f 1 (by omega)
      have f2 := X1.out.f 2 (by omega)
      have f3 := X1.out.f 3 (by omega)
      have f4 := X1.out.f 4 (by omega)
      have f5 := X1.out.f 5 (by omega)
      have f6 := X1.out.f 6 (by omega)
      have f7 := X1.out.f 7 (by omega)
      have f8 := X1.out.f 8 (by omega)
      obtain ⟨vg, hvg⟩ : ∃ vg, bs (lst m.va i) = vg := ⟨_, rfl⟩
      rw [hvg] at d8
      replace hvg : Kp _ := ⟨hvg⟩
      have hBX := hB1.out
      have hwx : w.heap.size ≤ w.heap.size := Nat.le_refl _
      clear X1 Y1 hB1 H'
      go_wp2_with fail
      exact bodyPost_ret (v := resD en st y vg) (by simp [results, Tryz.results25, go_sem, r0, r1, r2, r3, r4, r5, r6, r7, r8, resD]) rfl ⟨by rw [hvg.out], ((((((((hBX.setCell hwx _).setCell hwx _).setCell hwx _).setCell hwx _).setCell hwx _).setCell hwx _).setCell hwx _).setCell hwx _).setCell hwx _⟩
end Go.Proofs.YtcnbifdlkalimaaGreat

/-
  The walk of the document's Run: it answers what the document's words give; for every text, all tapes and every fuel.
-/
namespace Go.Proofs.YtcnbifdlkalimaaGreat
open Go.RowKit
set_option linter.unusedVariables false
set_option maxRecDepth 100000

theorem HandAt.new (w : World) (t : TypeId) (T : Int → ByteArray) : HandAt (w.alloc (.cells #[.string (T 0), .string (T 1), .string (T 2), .string (T 3), .string (T 4), .string (T 5), .string { data := #[] }, .string { data := #[] }, .string { data := #[] }, .string { data := #[] }, .string { data := #[] }, .string { data := #[] }, .int .i64 0, .int .i64 0, .int .i64 0, .int .i64 0, .int .i64 0, .int .i64 0, .int .i64 0, .int .i64 0] t)) w.heap.size T start := by
  refine ⟨by simp, fun j hj => ?_, fun j hj => ?_, fun j hj => ?_, fun j hj => by simp [go_sem]⟩
  · show _ = some (Value.string (tl (T j) ((0 : Nat) : Int)))
    rw [show ((0 : Nat) : Int) = 0 from rfl, tl_zero]
    match j with
    | 0 => simp [go_sem]
    | 1 => simp [go_sem]
    | 2 => simp [go_sem]
    | 3 => simp [go_sem]
    | 4 => simp [go_sem]
    | 5 => simp [go_sem]
    | j + 6 => omega
  · show _ = some (Value.string (bs []))
    rw [bs_nil]
    match j with
    | 0 => simp [go_sem]
    | 1 => simp [go_sem]
    | 2 => simp [go_sem]
    | 3 => simp [go_sem]
    | 4 => simp [go_sem]
    | 5 => simp [go_sem]
    | j + 6 => omega
  · show _ = some (Value.int .i64 0)
    match j with
    | 0 => simp [go_sem]
    | 1 => simp [go_sem]
    | 2 => simp [go_sem]
    | 3 => simp [go_sem]
    | 4 => simp [go_sem]
    | 5 => simp [go_sem]
    | 6 => simp [go_sem]
    | 7 => simp [go_sem]
    | j + 8 => omega

/-- what the document's loop keeps: after j instructions, in round k -/
structure RoundD (c : ByteArray) (T : Int → ByteArray) (f k j : Nat) : Prop where
  kf : k ≤ f + 1
  jm : j = min k f
  num : numM c T j start = j
  last : k = f + 1 → (runM c T j start).pl ≠ half c

set_option maxHeartbeats 6400000 in
theorem rrun_any (s : ByteArray) (T : Int → ByteArray) (f : Int) (w : World) (hs : s.size ≤ maxLen) (hT : ∀ l : Nat, l < 6 → (T l).size ≤ maxLen) : Calls Tryz.prog 10 #[.string s, tapV T, .int .i64 f] w (RunPost s T f w) := by
  obtain ⟨w0, hw0⟩ : ∃ w0, w0 = ((w.alloc (.cells #[.string (T 0), .string (T 1), .string (T 2), .string (T 3), .string (T 4), .string (T 5)] 35)).alloc (.cells #[.int .i64 0, .int .i64 0, .string { data := #[] }, .string { data := #[] }, .string { data := #[] }, .string { data := #[] }, .string { data := #[] }, .string { data := #[] }, .string { data := #[] }] 37)).alloc (.cells #[.int .i64 0, .int .i64 0, .string { data := #[] }, .string { data := #[] }, .string { data := #[] }, .string { data := #[] }, .string { data := #[] }, .string { data := #[] }, .string { data := #[] }] 37) := ⟨_, rfl⟩
  have X0 : ResAt w0 (w.heap.size + 1) 0 0 (fun _ => { data := #[] }) { data := #[] } := by
    rw [hw0]
    have := (ResAt.new (w.alloc (.cells #[.string (T 0), .string (T 1), .string (T 2), .string (T 3), .string (T 4), .string (T 5)] 35)) 37 0 0).step ((Below.refl _ _).alloc (Nat.le_refl _) (.cells #[.int .i64 0, .int .i64 0, .string { data := #[] }, .string { data := #[] }, .string { data := #[] }, .string { data := #[] }, .string { data := #[] }, .string { data := #[] }, .string { data := #[] }] 37))
    simpa using this
  have N0 : ResAt w0 (w.heap.size + 1 + 1) 0 0 (fun _ => { data := #[] }) { data := #[] } := by
    rw [hw0]
    have := ResAt.new ((w.alloc (.cells #[.string (T 0), .string (T 1), .string (T 2), .string (T 3), .string (T 4), .string (T 5)] 35)).alloc (.cells #[.int .i64 0, .int .i64 0, .string { data := #[] }, .string { data := #[] }, .string { data := #[] }, .string { data := #[] }, .string { data := #[] }, .string { data := #[] }, .string { data := #[] }] 37)) 37 0 0
    simpa using this
  have T0 : TapAt w0 w.heap.size (fun j => T j) := by
    rw [hw0]
    exact ((TapAt.new w 35 (T 0) (T 1) (T 2) (T 3) (T 4) (T 5) (f := fun j => T j) ⟨rfl, rfl, rfl, rfl, rfl, rfl⟩).step ((Below.refl _ _).alloc (Nat.le_refl _) _)).step ((Below.refl _ _).alloc (Nat.le_refl _) _)
  have hB0 : Below w.heap.size w w0 := by rw [hw0]; exact (((Below.refl _ _).alloc (Nat.le_refl _) _).alloc (by simp) _).alloc (by simp; omega) _
  replace hw0 : Kp _ := ⟨hw0⟩
  replace X0 : Kp _ := ⟨X0⟩
  replace N0 : Kp _ := ⟨N0⟩
  replace T0 : Kp _ := ⟨T0⟩
  replace hB0 : Kp _ := ⟨hB0⟩
  replace hT : Kp _ := ⟨hT⟩
  have hwx : w.heap.size ≤ w.heap.size + 1 := by omega
  unfold tapV
  go_enter Tryz.func10, Tryz.ntmps10
  go_wp2_with fail
  rw [← hw0.out]
  clear hw0
  refine (rcheck_any s _ hs).mono ?_
  rintro e w1 ⟨p, x, rfl, hC, b1⟩
  have X1 := X0.out.step b1
  have N1 := N0.out.step b1
  have T1 := T0.out.step b1
  have hBX := hB0.out.trans (b1.mono hB0.out.size)
  have hxl := X1.lt
  have hnl := N1.lt
  clear X0 N0 T0 hB0 b1
  by_cases hx : x = 0
  · subst hx
    obtain ⟨hsc, rfl, hgt, P⟩ := check_ok hs hC.out
    by_cases hf : 0 ≤ f ∧ f ≤ 20000
    · obtain ⟨hf0, hf1⟩ := hf
      obtain ⟨fk, rfl⟩ : ∃ k : Nat, f = k := ⟨f.toNat, by omega⟩
      have fk2 : fk ≤ 20000 := by omega
      have F := file_ok hs hsc
      have R : Kp (RunF (fCode s) (fVars s) (bv s 1) T) := ⟨runF_of F hs hsc hT.out⟩
      have hv8 := R.out.hv
      have hh := (half_bd (fCode s)).1
      have hRd := fun W => rread_yes s W hs hsc
      have hans : Kp (RunAns s T fk (resV (fCode s) (fVars s) T fk) 0) := ⟨.inr (.inr ⟨hC.out, hf0, hf1, rfl, rfl⟩)⟩
      replace P : Kp _ := ⟨P⟩
      obtain ⟨c, hce⟩ : ∃ c, fCode s = c := ⟨_, rfl⟩
      obtain ⟨v, hve⟩ : ∃ v, fVars s = v := ⟨_, rfl⟩
      obtain ⟨t, hte⟩ : ∃ t, fTab s = t := ⟨_, rfl⟩
      obtain ⟨n, hne⟩ : ∃ n, bv s 1 = n := ⟨_, rfl⟩
      rw [hce, hve, hte, hne] at hRd P
      rw [hce, hve, hne] at R
      rw [hce, hve] at hans
      rw [hve] at hv8
      rw [hce] at hh
      replace hRd : Kp _ := ⟨hRd⟩
      have t0 := T1.c 0 (by omega)
      have t1 := T1.c 1 (by omega)
      have t2 := T1.c 2 (by omega)
      have t3 := T1.c 3 (by omega)
      have t4 := T1.c 4 (by omega)
      have t5 := T1.c 5 (by omega)
      replace X1 : Kp _ := ⟨X1⟩
      replace T1 : Kp _ := ⟨T1⟩
      replace hBX : Kp _ := ⟨hBX⟩
      clear hce hve hte hne hsc F N1 hC hs
      go_wp2_with fail
      refine (hRd.out _).mono ?_
      rintro e w2 ⟨rfl, b2⟩
      have T2 := T1.out.step b2
      clear t0 t1 t2 t3 t4 t5
      have t0 := T2.c 0 (by omega)
      have t1 := T2.c 1 (by omega)
      have t2 := T2.c 2 (by omega)
      have t3 := T2.c 3 (by omega)
      have t4 := T2.c 4 (by omega)
      have t5 := T2.c 5 (by omega)
      have ht2 := T2.lt
      obtain ⟨w3, hw3⟩ : ∃ w3, w3 = (w2.alloc (.cells #[.int .i64 n, .string t, .string v, .string c, .int .i64 (half c)] 54)).alloc (.cells #[.string (T 0), .string (T 1), .string (T 2), .string (T 3), .string (T 4), .string (T 5), .string { data := #[] }, .string { data := #[] }, .string { data := #[] }, .string { data := #[] }, .string { data := #[] }, .string { data := #[] }, .int .i64 0, .int .i64 0, .int .i64 0, .int .i64 0, .int .i64 0, .int .i64 0, .int .i64 0, .int .i64 0] 76) := ⟨_, rfl⟩
      have O3 : Own w3 w2.heap.size [.int .i64 n, .string t, .string v, .string c, .int .i64 (half c)] := by rw [hw3]; exact (Own.new5 w2 _ _ _ _ _ _).alloc _
      have H3 : HandAt w3 (w2.heap.size + 1) T start := by
        rw [hw3]
        have := HandAt.new (w2.alloc (.cells #[.int .i64 n, .string t, .string v, .string c, .int .i64 (half c)] 54)) 76 T
        simpa using this
      have b3 : Below w1.heap.size w1 w3 := by rw [hw3]; exact (b2.alloc b2.size _).alloc (by simp; exact Nat.le_succ_of_le b2.size) _
      have X3 := X1.out.step b3
      have hB3 := hBX.out.trans (b3.mono hBX.out.size)
      have hxb : w.heap.size + 1 < w2.heap.size := Nat.lt_of_lt_of_le hxl b2.size
      replace hw3 : Kp _ := ⟨hw3⟩
      replace O3 : Kp _ := ⟨O3⟩
      replace H3 : Kp _ := ⟨H3⟩
      replace X3 : Kp _ := ⟨X3⟩
      replace hB3 : Kp _ := ⟨hB3⟩
      clear b2 b3 X1 T1 hBX T2 hRd
      go_wp2_with fail
      rw [← hw3.out]
      clear hw3 t0 t1 t2 t3 t4 t5
      go_loopw [14, 15, 16] (fun sv av nv wr => ∃ k j : Nat, nv = .int .i64 k ∧ sv = .string (stk (runM c T j start).st (runM c T j start).sp) ∧ av = .int .i64 (runM c T j start).pl ∧ Kp (RoundD c T fk k j) ∧ Kp (HandAt wr (w2.heap.size + 1) T (runM c T j start)) ∧ Kp (ResAt wr (w.heap.size + 1) 0 0 (fun _ => { data := #[] }) { data := #[] }) ∧ Kp (Own wr w2.heap.size [.int .i64 n, .string t, .string v, .string c, .int .i64 (half c)]) ∧ Kp (Below w.heap.size w wr)) (fun _ _ nv _ => fk + 1 - (intOf nv).toNat)
      case atStart => exact ⟨0, 0, rfl, rfl, rfl, ⟨⟨by omega, by omega, rfl, fun e => by omega⟩⟩, H3, X3, O3, hB3⟩
      case round =>
        clear H3 X3 O3 hB3
        obtain ⟨k, j, rfl, rfl, rfl, D, H, X, O, hB⟩ := hrel
        have dk := D.out.kf
        have dj := D.out.jm
        obtain ⟨Sd, Vd, _⟩ := run_keeps (T := T) P.out j start (start_sound P.out) start_vals
        replace Sd : Kp _ := ⟨Sd⟩
        replace Vd : Kp _ := ⟨Vd⟩
        have o0 := O.out.c 0 _ rfl
        have o1 := O.out.c 1 _ rfl
        have o2 := O.out.c 2 _ rfl
        have o3 := O.out.c 3 _ rfl
        have o4 := O.out.c 4 _ rfl
        obtain ⟨pl, hpl⟩ : ∃ pl, (runM c T j start).pl = pl := ⟨_, rfl⟩
        obtain ⟨sk, hsk⟩ : ∃ sk, stk (runM c T j start).st (runM c T j start).sp = sk := ⟨_, rfl⟩
        rw [hpl, hsk]
        have hvi : (v.size : Int) ≤ 8 := by omega
        by_cases hkf : k ≤ fk
        · have ej : j = k := by omega
          have hki : (k : Int) ≤ fk := by omega
          by_cases he : pl = half c
          · have hres : resV c v T fk = resD 1 k (fun q => bs ((runM c T j start).lo q)) (bs (lst (runM c T j start).va v.size)) := by
              obtain ⟨r1, r2⟩ := numM_last (T := T) (m := start) (k := j) (by rw [hpl]; exact he) fk (by omega)
              unfold resV resD endOf cntOf logOf varsOf
              rw [r1, r2, D.out.num, hpl, if_pos he, ej]
              rfl
            have hee : (pl == half c) = true := beq_iff_eq.2 he
            clear hpl hsk Sd ej dj dk D
            have hRs := fun W (hW : HandAt W (w2.heap.size + 1) T (runM c T j start)) => result_ref (w2.heap.size + 1) T (runM c T j start) 1 k v.size W hW Vd hv8
            obtain ⟨y, hy⟩ : ∃ y : Nat → ByteArray, (fun q : Nat => bs ((runM c T j start).lo q)) = y := ⟨_, rfl⟩
            obtain ⟨yv, hyv⟩ : ∃ yv, bs (lst (runM c T j start).va v.size) = yv := ⟨_, rfl⟩
            rw [hy, hyv] at hRs hres
            unfold resD at hRs hres
            replace hRs : Kp _ := ⟨hRs⟩
            rw [hres] at hans
            clear hres hy hyv
            go_wp2_with fail
            refine (hRs.out _ H.out).mono ?_
            rintro e w5 ⟨rfl, b5⟩
            have X5 := X.out.step b5
            have hBX := hB.out.trans (b5.mono hB.out.size)
            have hxl5 := X5.lt
            have r0 := X5.c0
            have r1 := X5.c1
            have r2 := X5.cl 0 (by omega)
            have r3 := X5.cl 1 (by omega)
            have r4 := X5.cl 2 (by omega)
            have r5 := X5.cl 3 (by omega)
            have r6 := X5.cl 4 (by omega)
            have r7 := X5.cl 5 (by omega)
            have r8 := X5.cv
            have f0 := X5.f 0 (by omega)
            have f1 := X5.f 1 (by omega)
            have f2 := X5.f 2 (by omega)
            have f3 := X5.f 3 (by omega)
            have f4 := X5.f 4 (by omega)
            have f5 := X5.f 5 (by omega)
            have f6 := X5.f 6 (by omega)
            have f7 := X5.f 7 (by omega)
            have f8 := X5.f 8 (by omega)
            clear X5 b5 H X hB O hRs o0 o1 o2 o3 o4 
            go_wp2_with fail
            exact bodyPost_ret (v := .tuple #[.agg #[.int .i64 1, .int .i64 k, .string (y 0), .string (y 1), .string (y 2), .string (y 3), .string (y 4), .string (y 5), .string yv], .int .i64 0]) (by simp [results, Tryz.results10, go_sem, r0, r1, r2, r3, r4, r5, r6, r7, r8]) rfl ⟨_, _, rfl, hans, ((((((((hBX.setCell hwx _).setCell hwx _).setCell hwx _).setCell hwx _).setCell hwx _).setCell hwx _).setCell hwx _).setCell hwx _).setCell hwx _⟩
          · have hee : (pl == half c) = false := beq_eq_false_iff_ne.2 he
            by_cases hlt : k < fk
            · have hli : (k : Int) < fk := by omega
              have hplt : (runM c T j start).pl < half c := by have := Sd.out.r1; omega
              have hlen : Kp (∀ l, ((runM c T j start).lo l).length ≤ 20000) := ⟨fun l => by have := run_len c T l j start; have e : (start.lo l).length = 0 := rfl; omega⟩
              have hdo := does_ref (w2.heap.size + 1) n t v c T hgt (runM c T j start) wr H.out R.out P Sd Vd hplt hlen
              have hnx : Kp (runM c T (j + 1) start = stepM c T (runM c T j start)) := ⟨runM_last (by rw [hpl]; exact he)⟩
              have D2 : Kp (RoundD c T fk (k + 1) (j + 1)) := ⟨⟨by omega, by omega, num_next j start (by rw [hpl]; exact he), fun e => by omega⟩⟩
              rw [hpl, hsk] at hdo
              replace hdo : Kp _ := ⟨hdo⟩
              have hhb : w2.heap.size < w2.heap.size + 1 := by omega
              clear hpl hsk hplt hlen ej dj dk D he
              go_wp2_with fail
              refine hdo.out.mono ?_
              rintro e w5 ⟨rfl, H5, b5⟩
              rw [← hnx.out] at H5 ⊢
              have X5 : Kp (ResAt w5 (w.heap.size + 1) 0 0 (fun _ => { data := #[] }) { data := #[] }) := ⟨by
                have key : ∀ q : Nat, w5.cell? ⟨w.heap.size + 1, q, none⟩ = wr.cell? ⟨w.heap.size + 1, q, none⟩ := fun q => b5.cell (p := ⟨w.heap.size + 1, q, none⟩) (by show w.heap.size + 1 < w2.heap.size + 1; omega)
                exact ⟨Nat.lt_of_lt_of_le X.out.lt b5.size, (key _).trans X.out.c0, (key _).trans X.out.c1, fun j hj => (key _).trans (X.out.cl j hj), (key _).trans X.out.cv, fun j hj => by rw [b5.frozen (p := ⟨w.heap.size + 1, j, none⟩) (by show w.heap.size + 1 < w2.heap.size + 1; omega)]; exact X.out.f j hj⟩⟩
              have O5 : Kp (Own w5 w2.heap.size [.int .i64 n, .string t, .string v, .string c, .int .i64 (half c)]) := ⟨Nat.lt_of_lt_of_le O.out.lt b5.size, fun i x hx => by rw [b5.cell (p := ⟨w2.heap.size, i, none⟩) hhb]; exact O.out.c i x hx, fun i x hx => by rw [b5.frozen (p := ⟨w2.heap.size, i, none⟩) hhb]; exact O.out.f i x hx⟩
              have hB5 : Kp (Below w.heap.size w w5) := ⟨hB.out.trans (b5.mono (by omega))⟩
              replace H5 : Kp _ := ⟨H5⟩
              clear b5 H X O hB hdo o0 o1 o2 o3 o4
              go_wp2_with fail
              go_roundw
              case rel => exact ⟨k + 1, j + 1, by go_num, rfl, rfl, D2, H5, X5, O5, hB5⟩
              case measure => simp [intOf]; omega
            · have ekf : k = fk := by omega
              have D2 : Kp (RoundD c T fk (k + 1) j) := ⟨⟨by omega, by omega, D.out.num, fun _ => by rw [hpl]; exact he⟩⟩
              go_wp2_with fail
              go_roundw
              case rel => exact ⟨k + 1, j, by go_num, by rw [hsk], by rw [hpl], D2, H, X, O, hB⟩
              case measure => simp [intOf]; omega
        · have ekf : k = fk + 1 := by omega
          have ej : j = fk := by omega
          have hki : ¬ (k : Int) ≤ fk := by omega
          have hres : resV c v T fk = resD 2 fk (fun q => bs ((runM c T j start).lo q)) (bs (lst (runM c T j start).va v.size)) := by
            have hne := D.out.last ekf
            have hnum := D.out.num
            rw [ej] at hne hnum ⊢
            unfold resV resD endOf cntOf logOf varsOf
            rw [hnum, if_neg hne]
            rfl
          clear hpl hsk Sd ej dj dk D
          have hRs := fun W (hW : HandAt W (w2.heap.size + 1) T (runM c T j start)) => result_ref (w2.heap.size + 1) T (runM c T j start) 2 fk v.size W hW Vd hv8
          obtain ⟨y, hy⟩ : ∃ y : Nat → ByteArray, (fun q : Nat => bs ((runM c T j start).lo q)) = y := ⟨_, rfl⟩
          obtain ⟨yv, hyv⟩ : ∃ yv, bs (lst (runM c T j start).va v.size) = yv := ⟨_, rfl⟩
          rw [hy, hyv] at hRs hres
          unfold resD at hRs hres
          replace hRs : Kp _ := ⟨hRs⟩
          rw [hres] at hans
          clear hres hy hyv
          go_wp2_with fail
          refine (hRs.out _ H.out).mono ?_
          rintro e w5 ⟨rfl, b5⟩
          have X5 := X.out.step b5
          have hBX := hB.out.trans (b5.mono hB.out.size)
          have hxl5 := X5.lt
          have r0 := X5.c0
          have r1 := X5.c1
          have r2 := X5.cl 0 (by omega)
          have r3 := X5.cl 1 (by omega)
          have r4 := X5.cl 2 (by omega)
          have r5 := X5.cl 3 (by omega)
          have r6 := X5.cl 4 (by omega)
          have r7 := X5.cl 5 (by omega)
          have r8 := X5.cv
          have f0 := X5.f 0 (by omega)
          have f1 := X5.f 1 (by omega)
          have f2 := X5.f 2 (by omega)
          have f3 := X5.f 3 (by omega)
          have f4 := X5.f 4 (by omega)
          have f5 := X5.f 5 (by omega)
          have f6 := X5.f 6 (by omega)
          have f7 := X5.f 7 (by omega)
          have f8 := X5.f 8 (by omega)
          clear X5 b5 H X hB O hRs o0 o1 o2 o3 o4 
          go_wp2_with fail
          exact bodyPost_ret (v := .tuple #[.agg #[.int .i64 2, .int .i64 fk, .string (y 0), .string (y 1), .string (y 2), .string (y 3), .string (y 4), .string (y 5), .string yv], .int .i64 0]) (by simp [results, Tryz.results10, go_sem, r0, r1, r2, r3, r4, r5, r6, r7, r8]) rfl ⟨_, _, rfl, hans, ((((((((hBX.setCell hwx _).setCell hwx _).setCell hwx _).setCell hwx _).setCell hwx _).setCell hwx _).setCell hwx _).setCell hwx _).setCell hwx _⟩
    · have hans : Kp (RunAns s T f resZ 10) := ⟨.inr (.inl ⟨hC.out, by omega, rfl, rfl⟩)⟩
      unfold resZ at hans
      have r0 := X1.c0
      have r1 := X1.c1
      have r2 := X1.cl 0 (by omega)
      have r3 := X1.cl 1 (by omega)
      have r4 := X1.cl 2 (by omega)
      have r5 := X1.cl 3 (by omega)
      have r6 := X1.cl 4 (by omega)
      have r7 := X1.cl 5 (by omega)
      have r8 := X1.cv
      have f0 := X1.f 0 (by omega)
      have f1 := X1.f 1 (by omega)
      have f2 := X1.f 2 (by omega)
      have f3 := X1.f 3 (by omega)
      have f4 := X1.f 4 (by omega)
      have f5 := X1.f 5 (by omega)
      have f6 := X1.f 6 (by omega)
      have f7 := X1.f 7 (by omega)
      have f8 := X1.f 8 (by omega)
      have n0 := N1.c0
      have n1 := N1.c1
      have n2 := N1.cl 0 (by omega)
      have n3 := N1.cl 1 (by omega)
      have n4 := N1.cl 2 (by omega)
      have n5 := N1.cl 3 (by omega)
      have n6 := N1.cl 4 (by omega)
      have n7 := N1.cl 5 (by omega)
      have n8 := N1.cv
      clear X1 N1 T1 P
      by_cases hf0 : f < 0
      all_goals
        have hfd : ¬ (0 ≤ f ∧ f ≤ 20000) := hf
        clear hf
        go_wp2_with fail
        exact bodyPost_ret (v := .tuple #[.agg #[.int .i64 0, .int .i64 0, .string { data := #[] }, .string { data := #[] }, .string { data := #[] }, .string { data := #[] }, .string { data := #[] }, .string { data := #[] }, .string { data := #[] }], .int .i64 10]) (by simp [results, Tryz.results10, go_sem, r0, r1, r2, r3, r4, r5, r6, r7, r8]) rfl ⟨_, _, rfl, hans, ((((((((hBX.setCell hwx _).setCell hwx _).setCell hwx _).setCell hwx _).setCell hwx _).setCell hwx _).setCell hwx _).setCell hwx _).setCell hwx _⟩
  · have hk : (x != 0) = true := bne_iff_ne.2 hx
    have hans : Kp (RunAns s T f resZ x) := ⟨.inl ⟨p, hC.out, hx, rfl⟩⟩
    unfold resZ at hans
    have r0 := X1.c0
    have r1 := X1.c1
    have r2 := X1.cl 0 (by omega)
    have r3 := X1.cl 1 (by omega)
    have r4 := X1.cl 2 (by omega)
    have r5 := X1.cl 3 (by omega)
    have r6 := X1.cl 4 (by omega)
    have r7 := X1.cl 5 (by omega)
    have r8 := X1.cv
    have f0 := X1.f 0 (by omega)
    have f1 := X1.f 1 (by omega)
    have f2 := X1.f 2 (by omega)
    have f3 := X1.f 3 (by omega)
    have f4 := X1.f 4 (by omega)
    have f5 := X1.f 5 (by omega)
    have f6 := X1.f 6 (by omega)
    have f7 := X1.f 7 (by omega)
    have f8 := X1.f 8 (by omega)
    have n0 := N1.c0
    have n1 := N1.c1
    have n2 := N1.cl 0 (by omega)
    have n3 := N1.cl 1 (by omega)
    have n4 := N1.cl 2 (by omega)
    have n5 := N1.cl 3 (by omega)
    have n6 := N1.cl 4 (by omega)
    have n7 := N1.cl 5 (by omega)
    have n8 := N1.cv
    clear X1 N1 T1 hC
    go_wp2_with fail
    exact bodyPost_ret (v := .tuple #[.agg #[.int .i64 0, .int .i64 0, .string { data := #[] }, .string { data := #[] }, .string { data := #[] }, .string { data := #[] }, .string { data := #[] }, .string { data := #[] }, .string { data := #[] }], .int .i64 x]) (by simp [results, Tryz.results10, go_sem, r0, r1, r2, r3, r4, r5, r6, r7, r8]) rfl ⟨_, _, rfl, hans, ((((((((hBX.setCell hwx _).setCell hwx _).setCell hwx _).setCell hwx _).setCell hwx _).setCell hwx _).setCell hwx _).setCell hwx _).setCell hwx _⟩
end Go.Proofs.YtcnbifdlkalimaaGreat

/-
  Six texts held against themselves; no condition.
-/
namespace Go.Proofs.YtcnbifdlkalimaaGreat
open Go.RowKit
set_option maxRecDepth 100000

theorem eq_text (d : Nat) (y : ByteArray) (w : World) : (Op.equalIn (d + 1) 9 (.string y) (.string y)).run Tryz.prog w = .ok true w := by
  simp only [Op.equalIn, run_underlying Tryz.underlying9, Sem.run_bind, Sem.run_pure, Result.andThen_ok]
  rw [beq_toListBytes]
  simp

theorem part_text (xs : Array Value) (i : Nat) (v : Value) (w : World) (h : xs[i]? = some v) : (part 9 xs i).run Tryz.prog w = .ok v w := by
  have hA : (isAgg 9).run Tryz.prog w = .ok false w := by
    unfold isAgg
    rw [Sem.run_bind, run_underlying Tryz.underlying9 w]
    simp
  unfold part
  simp [Sem.run_bind, hA, h]

theorem eq_tapes (d : Nat) (y0 y1 y2 y3 y4 y5 : ByteArray) (w : World) : (Op.equalIn (d + 2) 30 (.agg #[.string y0, .string y1, .string y2, .string y3, .string y4, .string y5]) (.agg #[.string y0, .string y1, .string y2, .string y3, .string y4, .string y5])).run Tryz.prog w = .ok true w := by
  have hz : (sizeOf 9).run Tryz.prog w = .ok 1 w := by
    unfold sizeOf typeInfo
    cases hq : Tryz.prog.info? 9 with
    | none =>
      have : (Tryz.prog.info? 9).isSome = true := by kernel_rfl
      rw [hq] at this
      exact absurd this (by simp)
    | some i =>
      have h1 : (Tryz.prog.info? 9).map (·.size) = some 1 := by kernel_rfl
      rw [hq] at h1
      have h2 : i.size = 1 := by simpa using h1
      simp [Sem.run_bind, hq, h2]
  unfold Op.equalIn
  simp only [Sem.run_bind, run_underlying Tryz.underlying30, Result.andThen_ok, hz]
  simp only [Std.Legacy.Range.forIn_eq_forIn_range', Std.Legacy.Range.size, Nat.sub_zero, Nat.add_sub_cancel, Nat.div_one, List.range'_succ, List.range'_zero]
  simp [Sem.run_bind, eq_text, part_text _ 0 (.string y0), part_text _ 1 (.string y1), part_text _ 2 (.string y2), part_text _ 3 (.string y3), part_text _ 4 (.string y4), part_text _ 5 (.string y5)]

theorem eq_tap (y0 y1 y2 y3 y4 y5 : ByteArray) (w : World) : (Op.equalIn 9999 30 (.agg #[.string y0, .string y1, .string y2, .string y3, .string y4, .string y5]) (.agg #[.string y0, .string y1, .string y2, .string y3, .string y4, .string y5])).run Tryz.prog w = .ok true w := eq_tapes 9997 y0 y1 y2 y3 y4 y5 w
end Go.Proofs.YtcnbifdlkalimaaGreat

/-
  The walk of the statement Runs; for every text, all tapes and every fuel.
-/
namespace Go.Proofs.YtcnbifdlkalimaaGreat
open Go.RowKit
set_option linter.unusedVariables false
set_option maxRecDepth 100000

theorem ans_one {s : ByteArray} {T : Int → ByteArray} {f : Int} {r r' : Value} {x x' : Int} (hs : s.size ≤ maxLen) (h : RunAns s T f r x) (h' : RunAns s T f r' x') : r = r' ∧ x = x' := by
  have one : ∀ {p e p' e'}, CheckIs s p e → CheckIs s p' e' → p = p' ∧ e = e' := fun a b => check_one (fun h => ranged_of (file_ok hs h).ok) a b
  rcases h with ⟨p, hC, hx, hr⟩ | ⟨hC, hf, hx, hr⟩ | ⟨hC, hf0, hf1, hx, hr⟩
  · rcases h' with ⟨p', hC', hx', hr'⟩ | ⟨hC', hf', hx', hr'⟩ | ⟨hC', hf0', hf1', hx', hr'⟩
    · exact ⟨hr.trans hr'.symm, (one hC hC').2⟩
    · exact absurd (one hC hC').2 hx
    · exact absurd (one hC hC').2 hx
  · rcases h' with ⟨p', hC', hx', hr'⟩ | ⟨hC', hf', hx', hr'⟩ | ⟨hC', hf0', hf1', hx', hr'⟩
    · exact absurd (one hC' hC).2 hx'
    · exact ⟨hr.trans hr'.symm, hx.trans hx'.symm⟩
    · omega
  · rcases h' with ⟨p', hC', hx', hr'⟩ | ⟨hC', hf', hx', hr'⟩ | ⟨hC', hf0', hf1', hx', hr'⟩
    · exact absurd (one hC' hC).2 hx'
    · omega
    · exact ⟨hr.trans hr'.symm, hx.trans hx'.symm⟩

theorem ans_form {s : ByteArray} {T : Int → ByteArray} {f : Int} {r : Value} {x : Int} (h : RunAns s T f r x) : ∃ en st y v, r = resD en st y v := by
  rcases h with ⟨p, hC, hx, hr⟩ | ⟨hC, hf, hx, hr⟩ | ⟨hC, hf0, hf1, hx, hr⟩
  · exact ⟨0, 0, fun _ => { data := #[] }, { data := #[] }, hr⟩
  · exact ⟨0, 0, fun _ => { data := #[] }, { data := #[] }, hr⟩
  · exact ⟨_, _, fun q => logOf (fCode s) T f.toNat q, _, hr⟩

set_option maxHeartbeats 1600000 in
theorem same_any (en st : Int) (y : Nat → ByteArray) (v : ByteArray) (w : World) :
    Calls Tryz.prog 11 #[resD en st y v, resD en st y v] w fun e w' => e = .returned (.bool true) ∧ Below w.heap.size w w' := by
  have hQ : ∀ (y0 y1 y2 y3 y4 y5 : ByteArray) (w : World), (Op.equalIn 10000 30 (.agg #[.string y0, .string y1, .string y2, .string y3, .string y4, .string y5]) (.agg #[.string y0, .string y1, .string y2, .string y3, .string y4, .string y5])).run Tryz.prog w = .ok true w := eq_tapes 9998
  unfold resD
  go_enter Tryz.func11, Tryz.ntmps11
  go_wp2_with fail
  go_ret
  exact ⟨ret_bool (by simp), ((Below.refl _ _).alloc (Nat.le_refl _) _).alloc (by simp) _⟩

theorem numR_any (e0 : Int) (w : World) :
    Calls Tryz.prog 8 #[.int .i64 e0] w fun e w' => e = .returned (.int .i64 e0) ∧ w' = w := by
  go_enter Tryz.func8, Tryz.ntmps8
  go_wp2
  go_ret
  exact ⟨rfl, rfl⟩

set_option maxHeartbeats 1600000 in
theorem runs_walk (s : ByteArray) (T : Int → ByteArray) (f : Int) (w : World) (hs : s.size ≤ maxLen) (hT : ∀ l : Nat, l < 6 → (T l).size ≤ maxLen) :
    Calls Tryz.prog 4 #[.string s, tapV T, .int .i64 f] w fun e w' => e = .returned (.bool true) ∧ Below w.heap.size w w' := by
  obtain ⟨wb, hwb⟩ : ∃ wb, wb = w.alloc (.cells #[.string (T 0), .string (T 1), .string (T 2), .string (T 3), .string (T 4), .string (T 5)] 30) := ⟨_, rfl⟩
  have A0 : TapAt wb w.heap.size (fun j => T j) := by rw [hwb]; exact TapAt.new w 30 (T 0) (T 1) (T 2) (T 3) (T 4) (T 5) (f := fun j => T j) ⟨rfl, rfl, rfl, rfl, rfl, rfl⟩
  have hB0 : Below w.heap.size w wb := by rw [hwb]; exact (Below.refl _ _).alloc (Nat.le_refl _) _
  have hP := fun W => prun_any s T f W hs hT
  have hD := fun W => rrun_any s T f W hs hT
  unfold tapV at hP hD
  replace hP : Kp _ := ⟨hP⟩
  replace hD : Kp _ := ⟨hD⟩
  replace hwb : Kp _ := ⟨hwb⟩
  replace A0 : Kp _ := ⟨A0⟩
  replace hB0 : Kp _ := ⟨hB0⟩
  unfold tapV
  go_enter Tryz.func4, Tryz.ntmps4
  go_wp2_with fail
  rw [← hwb.out]
  clear hwb
  refine (hP.out _).mono ?_
  rintro e w1 ⟨r, x, rfl, hA, b1⟩
  obtain ⟨en, st, y, v, hr⟩ := ans_form hA.out
  subst hr
  unfold resD
  obtain ⟨wc, hwc⟩ : ∃ wc, wc = w1.alloc (.cells #[.int .i64 en, .int .i64 st, .string (y 0), .string (y 1), .string (y 2), .string (y 3), .string (y 4), .string (y 5), .string v] 32) := ⟨_, rfl⟩
  have X1 : ResAt wc w1.heap.size en st y v := by rw [hwc]; exact ResAt.boxD w1 _ en st y v
  have A1 := A0.out.step b1
  have t0 := A1.c 0 (by omega)
  have t1 := A1.c 1 (by omega)
  have t2 := A1.c 2 (by omega)
  have t3 := A1.c 3 (by omega)
  have t4 := A1.c 4 (by omega)
  have t5 := A1.c 5 (by omega)
  have hl1 := A1.lt
  have hB1 := hB0.out.trans (b1.mono hB0.out.size)
  have hBc : Below w.heap.size w wc := by rw [hwc]; exact hB1.alloc hB1.size _
  replace hwc : Kp _ := ⟨hwc⟩
  replace X1 : Kp _ := ⟨X1⟩
  replace hBc : Kp _ := ⟨hBc⟩
  clear A0 hB0 A1 b1 hB1
  go_wp2_with fail
  rw [← hwc.out]
  clear hwc t0 t1 t2 t3 t4 t5
  refine (hD.out _).mono ?_
  rintro e w2 ⟨r', x', rfl, hA', b2⟩
  obtain ⟨e1, e2⟩ := ans_one hs hA.out hA'.out
  subst e1
  subst e2
  unfold resD
  have X2 := X1.out.step b2
  have hB2 := hBc.out.trans (b2.mono hBc.out.size)
  have hx2 := X2.lt
  have p0 := X2.c0
  have p1 := X2.c1
  have p2 := X2.cl 0 (by omega)
  have p3 := X2.cl 1 (by omega)
  have p4 := X2.cl 2 (by omega)
  have p5 := X2.cl 3 (by omega)
  have p6 := X2.cl 4 (by omega)
  have p7 := X2.cl 5 (by omega)
  have p8 := X2.cv
  have hS := fun W => same_any en st y v W
  unfold resD at hS
  replace hS : Kp _ := ⟨hS⟩
  have hB3 := hB2.alloc hB2.size (.cells #[.int .i64 en, .int .i64 st, .string (y 0), .string (y 1), .string (y 2), .string (y 3), .string (y 4), .string (y 5), .string v] 37)
  have hxx : (x == x) = true := by simp
  clear X1 X2 hBc b2 hP hD hA hA'
  go_wp2_with fail
  refine (hS.out _).mono ?_
  rintro e w3 ⟨rfl, b3⟩
  have hB4 := hB3.trans (b3.mono hB3.size)
  clear p0 p1 p2 p3 p4 p5 p6 p7 p8 hS
  go_wp2_with fail
  refine (numR_any _ _).mono ?_
  rintro e w5 ⟨rfl, rfl⟩
  go_wp2_with fail
  go_ret
  exact ⟨ret_bool (by simp), hB4⟩
end Go.Proofs.YtcnbifdlkalimaaGreat
