/-
  The walk of the package flow: the first leak of a row of statements; for every table.
-/
import Derived.Test.YtcnbifdlkalimabGreatFlwB
namespace Go.Proofs.YtcnbifdlkalimabGreat
open Go.RowKit
set_option linter.unusedVariables false
set_option maxRecDepth 100000

theorem flat16 : ∀ (l : List Sq) (e i : Nat) (x : Sq), l[e]? = some x → i < 16 → (l.flatMap stV)[e * 16 + i]? = (stV x)[i]?
  | [], e, i, x, h, hi => by simp at h
  | y :: l, 0, i, x, h, hi => by
    have e1 : y = x := by simpa using h
    subst e1
    rw [List.flatMap_cons, List.getElem?_append_left (by show 0 * 16 + i < 16; omega)]
    simp
  | y :: l, e + 1, i, x, h, hi => by
    rw [List.flatMap_cons, List.getElem?_append_right (by show 16 ≤ (e + 1) * 16 + i; omega)]
    rw [show (e + 1) * 16 + i - (stV y).length = e * 16 + i from by show (e + 1) * 16 + i - 16 = _; omega]
    exact flat16 l e i x (by simpa using h) hi
/-- a statement of a row -/
theorem orow_st {w : World} {B : Nat} {v : Value} {l : List Sq} (h : w.ownsRow B 109 16 v l.length (l.flatMap stV)) {k : Nat} {x : Sq} (hx : l[k]? = some x) : ∃ g c, v = .slice (some ⟨g, 0, none⟩) l.length c ∧ g < w.heap.size ∧ ∀ i u, (stV x)[i]? = some u → w.cell? ⟨g, k * 16 + i, none⟩ = some u := by
  have hi : k < l.length := (List.getElem?_eq_some_iff.1 hx).1
  obtain ⟨g, c, hS⟩ : ∃ g c, v = .slice (some ⟨g, 0, none⟩) l.length c := by
    rcases h.2 with h | ⟨g, cap, cur, h, _⟩
    · omega
    · exact ⟨g, cap, h⟩
  rw [hS] at h
  refine ⟨g, c, hS, (h.lt g rfl).2, fun i u hu => ?_⟩
  have h16 : i < 16 := by have := (List.getElem?_eq_some_iff.1 hu).1; simpa [stV] using this
  rw [h.cellAt (k * 16 + i) (by omega), flat16 l k i x hx h16]
  exact hu

/-- while the row is gone through -/
structure FLAt (w wr : World) (n : Int) (T : ByteArray) (B : Nat) (v : Value) (ss : List Sq) (iv : Value) (inn : List Int) : Prop where
  b : Below w.heap.size w wr
  t : Own wr w.heap.size [.int .i64 n, .string T]
  r : wr.ownsRow B 109 16 v ss.length (ss.flatMap stV)
  i : wr.ownsRow (w.heap.size + 1) 3 1 iv inn.length (inn.map (Value.int .i64))
  v : ∀ g, v.ownBlock = some g → g < w.heap.size
theorem FLAt.step {w wr w1 : World} {n : Int} {T : ByteArray} {B : Nat} {v : Value} {ss : List Sq} {iv : Value} {inn : List Int} (h : FLAt w wr n T B v ss iv inn) (hb : Below wr.heap.size wr w1) : FLAt w w1 n T B v ss iv inn :=
  ⟨h.b.trans (hb.mono h.b.size), h.t.step hb, orow_step h.r hb, orow_step h.i hb, h.v⟩

theorem info_in : (Tryz.prog.info? 3).map (fun i => (i.zero, i.size, i.bytes)) = some (some (.int .i64 0), 1, 8) := by kernel_rfl
/-- one number more -/
theorem FLAt.add {w w5 w3 : World} {n : Int} {T : ByteArray} {B : Nat} {v : Value} {ss : List Sq} {iv v' : Value} {inn : List Int} {y : Int} {o : Obj} (A : FLAt w w5 n T B v ss iv inn) (hg : (w5.alloc o).grownBy w3 iv.ownBlock) (hown : w3.ownsRow (w.heap.size + 1) 3 1 v' (inn.length + 1) (inn.map (Value.int .i64) ++ [.int .i64 y])) : FLAt w w3 n T B v ss v' (inn ++ [y]) := by
  have A1 := A.step ((Below.refl _ _).alloc (Nat.le_refl _) o)
  generalize w5.alloc o = w6 at *
  have hi : ∀ k, iv.ownBlock = some k → w.heap.size + 1 ≤ k := fun k hk => (A.i.lt k hk).1
  have hb : ∀ k, k < w6.heap.size → k ≤ w.heap.size → w3.heap[k]? = w6.heap[k]? := fun k h1 h2 => hg.block k h1 (fun e => by have := hi k e.symm; omega)
  have hlt := A1.t.lt
  refine ⟨A1.b.grown hg (A1.b.size) (fun k hk => by have := hi k hk; omega), ?_, ?_, ?_, A.v⟩
  · refine ⟨Nat.lt_of_lt_of_le hlt hg.size, fun i u hu => ?_, fun i u hu => ?_⟩
    · rw [World.cell?_of_block (w := w6) (hb _ hlt (Nat.le_refl _))]
      exact A1.t.c i u hu
    · rw [World.frozen?_of_block (w := w6) (hb _ hlt (Nat.le_refl _))]
      exact A1.t.f i u hu
  · exact orow_same A1.r (fun g hgg => hb g (by have := (A1.r.lt g hgg).2; omega) (by have := A.v g hgg; omega))
  · rw [List.length_append, List.map_append]
    exact hown

/-- the contexts are levels -/
theorem ctx_lv {T : ByteArray} {n : Int} (H : LatOk T n) {inn : List Int} (hi : ∀ y, y ∈ inn → Lv n y) (ou : Int) : Lv n (ctxF T n inn ou) := by
  unfold ctxF
  split
  · exact (botI_is H).1
  · rename_i h
    have hl : ou.toNat < inn.length := by omega
    rw [List.getD_eq_getElem?_getD, List.getElem?_eq_getElem hl]
    exact hi _ (List.getElem_mem hl)

set_option maxHeartbeats 3200000 in
theorem first_any {T : ByteArray} {n : Int} (ht : Tab T n) (hp : pOrder T n = true) (H : LatOk T n) (ss : List Sq) (v : Value) (B : Nat) (w : World) (hR : w.ownsRow B 109 16 v ss.length (ss.flatMap stV)) (hl : ss.length ≤ 10000)
    (hta : ∀ x, x ∈ ss → (x.k = 1 ∨ x.k = 2 → Lv n x.ta)) (hpl : ∀ x, x ∈ ss → 0 ≤ x.pl) :
    Calls Tryz.prog 18 #[.agg #[.int .i64 n, .string T], v] w fun e w' => e = .returned (.tuple #[.int .i64 (if firstF T n ss [] = -1 then 0 else firstF T n ss []), .bool (firstF T n ss [] != -1)]) ∧ Below w.heap.size w w' := by
  obtain ⟨p1, c1, hv⟩ := orow_len hR
  obtain ⟨i0, hi0, hz0, hz1, hz2⟩ := infoParts info_in
  obtain ⟨res, hres⟩ : ∃ r, firstF T n ss [] = r := ⟨_, rfl⟩
  rw [hres]
  obtain ⟨r1, hr1⟩ : ∃ r, (if res = -1 then 0 else res) = r := ⟨_, rfl⟩
  obtain ⟨r2, hr2⟩ : ∃ r, (res != -1) = r := ⟨_, rfl⟩
  rw [hr1, hr2]
  replace hr1 : Kp _ := ⟨hr1⟩
  replace hr2 : Kp _ := ⟨hr2⟩
  have b0 : Below w.heap.size w (w.alloc (.cells #[.int .i64 n, .string T] 54)) := (Below.refl _ _).alloc (Nat.le_refl _) _
  have b1 := b0.alloc (b0.size) (.cells #[] 3)
  have A0 : FLAt w ((w.alloc (.cells #[.int .i64 n, .string T] 54)).alloc (.cells #[] 3)) n T B v ss (.slice (some ⟨w.heap.size + 1, 0, none⟩) 0 0) [] := by
    refine ⟨b1, (Own.new2 w _ _ _).alloc _, orow_step hR b1, ?_, fun g hg => (hR.lt g hg).2⟩
    refine ⟨rfl, .inr ⟨w.heap.size + 1, 0, #[], rfl, Nat.le_refl _, ?_, Nat.le_refl _, by unfold maxLen; omega, rfl, rfl⟩⟩
    have e0 : (w.alloc (.cells #[.int .i64 n, .string T] 54)).heap.size = w.heap.size + 1 := by simp
    rw [← e0]
    exact Array.getElem?_push_size ..
  replace A0 : Kp _ := ⟨A0⟩
  have hSl : (ss.length : Int) ≤ 10000 := by omega
  subst hv
  replace hp : Kp _ := ⟨hp⟩
  replace H : Kp _ := ⟨H⟩
  replace hta : Kp _ := ⟨hta⟩
  replace hpl : Kp _ := ⟨hpl⟩
  replace hres : Kp _ := ⟨hres⟩
  clear hR b0 b1
  go_enter Tryz.func18, Tryz.ntmps18
  go_wp2_with fail
  go_loopw [6, 7] (fun iv d wr => ∃ (k : Nat) (inn : List Int) (v0 : Value), v0 = iv ∧ d = .int .i64 k ∧ k ≤ ss.length ∧ inn.length = k ∧ Kp (FLAt w wr n T B (.slice p1 ss.length c1) ss v0 inn) ∧ Kp (∀ y, y ∈ inn → Lv n y) ∧ Kp (firstF T n (ss.drop k) inn = res)) (fun _ d _ => ss.length - (intOf d).toNat)
  case atStart => exact ⟨0, [], _, rfl, rfl, Nat.zero_le _, rfl, A0, ⟨fun y hy => by simp at hy⟩, ⟨hres.out⟩⟩
  case round =>
    obtain ⟨k, inn, v0, hv0, rfl, hk, hkl, A, hLv, hF⟩ := hrel
    subst hv0
    subst hkl
    clear A0
    have q0 := A.out.t.c 0 _ rfl
    have q1 := A.out.t.c 1 _ rfl
    have q2 := A.out.t.lt
    by_cases hlt : inn.length < ss.length
    · have hx : ss[inn.length]? = some ss[inn.length] := List.getElem?_eq_getElem hlt
      have hmem : ss[inn.length] ∈ ss := List.getElem_mem hlt
      have hdrop : ss.drop inn.length = ss[inn.length] :: ss.drop (inn.length + 1) := List.drop_eq_getElem_cons hlt
      generalize ss[inn.length] = x at *
      have hc := ctx_lv H.out hLv.out x.ou
      have hj := (jset_is H.out x.rd n.toNat (by have := ht.1; omega)).1
      have hvv := H.out.jin _ _ hc hj
      have hCt := fun (W : World) (hI : W.ownsRow (w.heap.size + 1) 3 1 v0 inn.length (inn.map (Value.int .i64))) => ctx_any ht x inn v0 (w.heap.size + 1) W hI (by omega)
      have hJs := fun W => setJoin_any ht hp.out H.out x.rd W
      have hJn := fun W => join_any ht (ctxF T n inn x.ou) (jset T n x.rd n.toNat) W hc.1 hc.2 hj.1 hj.2
      have e1 : (pJoin T n (ctxF T n inn x.ou) (jset T n x.rd n.toNat)).getD 0 = jn T n (ctxF T n inn x.ou) (jset T n x.rd n.toNat) := by unfold jn; rw [join_same hp.out]
      rw [e1] at hJn
      have hLk := fun W => leaksF_any ht x (ctxF T n inn x.ou) (jn T n (ctxF T n inn x.ou) (jset T n x.rd n.toNat)) hc hvv (hta.out x hmem) W
      rw [hdrop] at hF
      have hF2 := hF.out
      simp only [firstF] at hF2
      replace hF2 : Kp _ := ⟨hF2⟩
      obtain ⟨g, cp, hsl, hg, hcell⟩ := orow_st A.out.r hx
      obtain ⟨rfl, rfl⟩ : p1 = some ⟨g, 0, none⟩ ∧ c1 = cp := by
        have := hsl
        injection this with a b c
        exact ⟨a, c⟩
      have d0 : wr.cell? ⟨g, inn.length * 16, none⟩ = some (.int .i64 x.k) := hcell 0 _ rfl
      have d1 := hcell 1 _ rfl
      have d2 := hcell 2 _ rfl
      have d3 := hcell 3 _ rfl
      have d4 := hcell 4 _ rfl
      have d5 := hcell 5 _ rfl
      have d6 := hcell 6 _ rfl
      have d7 := hcell 7 _ rfl
      have d8 := hcell 8 _ rfl
      have d9 := hcell 9 _ rfl
      have d10 := hcell 10 _ rfl
      have d11 := hcell 11 _ rfl
      have d12 := hcell 12 _ rfl
      have d13 := hcell 13 _ rfl
      have d14 := hcell 14 _ rfl
      have d15 := hcell 15 _ rfl
      have hki : (inn.length : Int) < (ss.length : Int) := by omega
      generalize jn T n (ctxF T n inn x.ou) (jset T n x.rd n.toNat) = lv at *
      generalize (pJoin T n (ctxF T n inn x.ou) (jset T n x.rd n.toNat)).isSome = ok at *
      generalize jset T n x.rd n.toNat = jr at *
      generalize ctxF T n inn x.ou = cx at *
      generalize hlk : leakF T n x cx lv = lk at *
      unfold stA at hCt hLk
      unfold setA at hJs
      replace hCt : Kp _ := ⟨hCt⟩
      replace hJs : Kp _ := ⟨hJs⟩
      replace hJn : Kp _ := ⟨hJn⟩
      replace hLk : Kp _ := ⟨hLk⟩
      replace hmem : Kp _ := ⟨hmem⟩
      replace hvv : Kp _ := ⟨hvv⟩
      clear hcell hsl hx hdrop hF hc hj e1 hlk
      obtain ⟨pi, ci, hv0⟩ := orow_len A.out.i
      subst hv0
      obtain ⟨k, hkk⟩ : ∃ k, Kp (inn.length = k) := ⟨_, ⟨rfl⟩⟩
      rw [hkk.out] at A hCt d0 d1 d2 d3 d4 d5 d6 d7 d8 d9 d10 d11 d12 d13 d14 d15 hki hF2
      simp only [hkk.out]
      go_wp2_with fail
      have S1 := own16 wr x 109
      have bA : Below wr.heap.size wr (wr.alloc (.cells #[.int .i64 x.k, .int .i64 x.pl, .int .i64 x.ou, .int .i64 x.ta, .bool (x.rd 0), .bool (x.rd 1), .bool (x.rd 2), .bool (x.rd 3), .bool (x.rd 4), .bool (x.rd 5), .bool (x.tp 0), .bool (x.tp 1), .bool (x.tp 2), .bool (x.tp 3), .bool (x.tp 4), .bool (x.tp 5)] 109)) := (Below.refl _ _).alloc (Nat.le_refl _) _
      have A1 := A.out.step bA
      obtain ⟨sb, hsb⟩ : ∃ sb, Kp (wr.heap.size = sb) := ⟨_, ⟨rfl⟩⟩
      replace S1 : Kp _ := ⟨S1⟩
      replace A1 : Kp _ := ⟨A1⟩
      clear bA
      refine (hCt.out _ (by have := A1.out.i; rw [hkk.out] at this; exact this)).mono ?_
      rintro e w2 ⟨rfl, b2⟩
      have A2 : Kp _ := ⟨A1.out.step b2⟩
      have S2 : Kp _ := ⟨S1.out.step b2⟩
      rw [hsb.out] at S2
      simp only [hsb.out]
      clear b2 A1 S1 A hsb q0 q1 q2 d0 d1 d2 d3 d4 d5 d6 d7 d8 d9 d10 d11 d12 d13 d14 d15 hg hCt
      have s0 := S2.out.c 0 _ rfl
      have s1 := S2.out.c 1 _ rfl
      have s2 := S2.out.c 2 _ rfl
      have s3 := S2.out.c 3 _ rfl
      have s4 := S2.out.c 4 _ rfl
      have s5 := S2.out.c 5 _ rfl
      have s6 := S2.out.c 6 _ rfl
      have s7 := S2.out.c 7 _ rfl
      have s8 := S2.out.c 8 _ rfl
      have s9 := S2.out.c 9 _ rfl
      have s10 := S2.out.c 10 _ rfl
      have s11 := S2.out.c 11 _ rfl
      have s12 := S2.out.c 12 _ rfl
      have s13 := S2.out.c 13 _ rfl
      have s14 := S2.out.c 14 _ rfl
      have s15 := S2.out.c 15 _ rfl
      have q0 := A2.out.t.c 0 _ rfl
      have q1 := A2.out.t.c 1 _ rfl
      have q2 := A2.out.t.lt
      have q3 := S2.out.lt
      go_wp2_with fail
      refine (hJs.out _).mono ?_
      rintro e w3 ⟨rfl, b3⟩
      have A3 : Kp _ := ⟨A2.out.step b3⟩
      have S3 : Kp _ := ⟨S2.out.step b3⟩
      clear b3 A2 S2 hJs s0 s1 s2 s3 s4 s5 s6 s7 s8 s9 s10 s11 s12 s13 s14 s15 q0 q1 q2 q3
      have s0 := S3.out.c 0 _ rfl
      have s1 := S3.out.c 1 _ rfl
      have s2 := S3.out.c 2 _ rfl
      have s3 := S3.out.c 3 _ rfl
      have s4 := S3.out.c 4 _ rfl
      have s5 := S3.out.c 5 _ rfl
      have s6 := S3.out.c 6 _ rfl
      have s7 := S3.out.c 7 _ rfl
      have s8 := S3.out.c 8 _ rfl
      have s9 := S3.out.c 9 _ rfl
      have s10 := S3.out.c 10 _ rfl
      have s11 := S3.out.c 11 _ rfl
      have s12 := S3.out.c 12 _ rfl
      have s13 := S3.out.c 13 _ rfl
      have s14 := S3.out.c 14 _ rfl
      have s15 := S3.out.c 15 _ rfl
      have q0 := A3.out.t.c 0 _ rfl
      have q1 := A3.out.t.c 1 _ rfl
      have q2 := A3.out.t.lt
      have q3 := S3.out.lt
      go_wp2_with fail
      refine (hJn.out _).mono ?_
      rintro e w4 ⟨rfl, b4⟩
      have A4 : Kp _ := ⟨A3.out.step b4⟩
      have S4 : Kp _ := ⟨S3.out.step b4⟩
      clear b4 A3 S3 hJn s0 s1 s2 s3 s4 s5 s6 s7 s8 s9 s10 s11 s12 s13 s14 s15 q0 q1 q2 q3
      have s0 := S4.out.c 0 _ rfl
      have s1 := S4.out.c 1 _ rfl
      have s2 := S4.out.c 2 _ rfl
      have s3 := S4.out.c 3 _ rfl
      have s4 := S4.out.c 4 _ rfl
      have s5 := S4.out.c 5 _ rfl
      have s6 := S4.out.c 6 _ rfl
      have s7 := S4.out.c 7 _ rfl
      have s8 := S4.out.c 8 _ rfl
      have s9 := S4.out.c 9 _ rfl
      have s10 := S4.out.c 10 _ rfl
      have s11 := S4.out.c 11 _ rfl
      have s12 := S4.out.c 12 _ rfl
      have s13 := S4.out.c 13 _ rfl
      have s14 := S4.out.c 14 _ rfl
      have s15 := S4.out.c 15 _ rfl
      have q0 := A4.out.t.c 0 _ rfl
      have q1 := A4.out.t.c 1 _ rfl
      have q2 := A4.out.t.lt
      have q3 := S4.out.lt
      go_wp2_with fail
      refine (hLk.out _).mono ?_
      rintro e w5 ⟨rfl, b5⟩
      have A5 : Kp _ := ⟨A4.out.step b5⟩
      have S5 : Kp _ := ⟨S4.out.step b5⟩
      clear b5 A4 S4 hLk s0 s1 s2 s3 s4 s5 s6 s7 s8 s9 s10 s11 s12 s13 s14 s15 q0 q1 q2 q3
      have s1 := S5.out.c 1 _ rfl
      have hF3 := hF2.out
      cases lk
      · rw [if_neg (by simp)] at hF3
        replace hF3 : Kp _ := ⟨hF3⟩
        clear hF2
        have hIr := A5.out.i
        rw [hkk.out] at hIr
        have hB1 := A5.out.t.lt
        have hLn : Kp (∀ y, y ∈ inn ++ [lv] → Lv n y) := ⟨fun y hy => by
          rw [List.mem_append, List.mem_singleton] at hy
          rcases hy with c | c
          · exact hLv.out y c
          · rw [c]; exact hvv.out⟩
        have hk3 : k ≤ 10000 := by omega
        replace hIr : Kp _ := ⟨hIr⟩
        clear s1 S5
        go_wp2_with (at_builtin; refine wpList_append_own_at _ rfl _ _ 69 rfl (w.heap.size + 1) 3 i0 (.int .i64 0) 1 8 Tryz.underlying69 hi0 hz0 hz1 hz2 rfl (by decide) _ k (inn.map (Value.int .i64)) rfl (hIr.out.alloc _) ⟨w5.heap.size, 0, none⟩ 1 1 [.int .i64 lv] rfl rfl ?a1 ?a2 ?a3 ?a4 ?a5 ?_)
        case a1 =>
          intro j u hj
          match j, hj with
          | 0, hj => simp at hj; subst hj; simp [Addr.add]
        case a2 => intro u hu; simp at hu; subst hu; rfl
        case a3 => unfold maxLen; omega
        case a4 => omega
        case a5 => simp; omega
        intro v' w6 hown hgrow _ hat
        have A6 : Kp _ := ⟨A5.out.add hgrow (by rw [hkk.out]; exact hown)⟩
        clear hown hgrow hat A5 hIr
        go_wp2_with fail
        go_roundw
        case rel => exact ⟨k + 1, inn ++ [lv], v', rfl, by go_num, by omega, by rw [List.length_append, hkk.out]; rfl, A6, hLn, hF3⟩
        case measure => simp [intOf]; omega
      · rw [if_pos rfl] at hF3
        have hpx := hpl.out x hmem.out
        have hr : Kp ((if res = -1 then 0 else res) = x.pl ∧ (res != -1) = true) := ⟨by
          rw [← hF3]
          exact ⟨if_neg (by omega), by rw [bne_iff_ne]; omega⟩⟩
        clear hF3 hF2 hpx
        go_wp2_with fail
        go_ret2
        exact ⟨by rw [← hr1.out, ← hr2.out, hr.out.1, hr.out.2]; rfl, A5.out.b⟩
    · have e0 : Kp (res = -1) := ⟨by
        have := hF.out
        rw [List.drop_of_length_le (by omega)] at this
        exact this.symm⟩
      have A' : Kp _ := ⟨A.out.b⟩
      obtain ⟨pi, ci, hv0⟩ := orow_len A.out.i
      subst hv0
      have hle : inn.length = ss.length := by omega
      replace hle : Kp _ := ⟨hle⟩
      have hni : ¬ (inn.length : Int) < (ss.length : Int) := by omega
      clear A hF
      generalize inn.length = k at *
      go_wp2_with fail
      go_ret2
      exact ⟨by rw [← hr1.out, ← hr2.out, e0.out]; rfl, A'.out⟩
end Go.Proofs.YtcnbifdlkalimabGreat
