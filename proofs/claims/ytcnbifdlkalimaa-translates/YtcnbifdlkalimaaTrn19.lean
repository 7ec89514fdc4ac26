/-
  The walks of the package translation: a variable is declared; for every translator.
-/
import Derived.Test.YtcnbifdlkalimaaTrnB
namespace Go.Proofs.Ytcnbifdlkalimaa
open Go.RowKit
set_option linter.unusedVariables false
set_option maxRecDepth 100000

/-- one byte more in the row of letters, or of levels -/
theorem told_ls {w wa w3 : World} {b : Nat} {s : ByteArray} {q : Tq} {S : Nat → Value} {v' : Value} {t : Int} (H : TrAt w b s q S) (ha : Below w.heap.size w wa) (hg : wa.grownBy w3 (S 0).ownBlock) (hown : w3.ownsRow (b + 1) 5 1 v' (q.ls.length + 1) (q.ls.map (Value.int .u8) ++ [.int .u8 t])) (hat : v'.ownBlock = (S 0).ownBlock ∨ v'.ownBlock = some wa.heap.size) :
    TrAt (w3.setCell ⟨b, 41, none⟩ v') b s { q with ls := q.ls ++ [t] } (fun j => if j = 0 then v' else S j) ∧ TrTo b b S (fun j => if j = 0 then v' else S j) w (w3.setCell ⟨b, 41, none⟩ v') :=
  TrAt.told (l := 0) H (by omega) ha hg (by
    have e1 : rowN { q with ls := q.ls ++ [t] } 0 = q.ls.length + 1 := by show (q.ls ++ [t]).length = _; rw [List.length_append]; rfl
    have e2 : rowV { q with ls := q.ls ++ [t] } 0 = q.ls.map (Value.int .u8) ++ [.int .u8 t] := by show (q.ls ++ [t]).map _ = _; rw [List.map_append]; rfl
    rw [e1, e2]
    exact hown) hat rfl rfl rfl rfl rfl rfl (fun j hj hne => by unfold rowN; rw [if_neg hne, if_neg hne]) (fun j hj hne => by unfold rowV; rw [if_neg hne, if_neg hne])
theorem told_vs {w wa w3 : World} {b : Nat} {s : ByteArray} {q : Tq} {S : Nat → Value} {v' : Value} {t : Int} (H : TrAt w b s q S) (ha : Below w.heap.size w wa) (hg : wa.grownBy w3 (S 1).ownBlock) (hown : w3.ownsRow (b + 1) 5 1 v' (q.vs.length + 1) (q.vs.map (Value.int .u8) ++ [.int .u8 t])) (hat : v'.ownBlock = (S 1).ownBlock ∨ v'.ownBlock = some wa.heap.size) :
    TrAt (w3.setCell ⟨b, 42, none⟩ v') b s { q with vs := q.vs ++ [t] } (fun j => if j = 1 then v' else S j) ∧ TrTo b b S (fun j => if j = 1 then v' else S j) w (w3.setCell ⟨b, 42, none⟩ v') :=
  TrAt.told (l := 1) H (by omega) ha hg (by
    have e1 : rowN { q with vs := q.vs ++ [t] } 1 = q.vs.length + 1 := by show (q.vs ++ [t]).length = _; rw [List.length_append]; rfl
    have e2 : rowV { q with vs := q.vs ++ [t] } 1 = q.vs.map (Value.int .u8) ++ [.int .u8 t] := by show (q.vs ++ [t]).map _ = _; rw [List.map_append]; rfl
    rw [e1, e2]
    exact hown) hat rfl rfl rfl rfl rfl rfl (fun j hj hne => by
    match j, hj with
    | 0, _ => rfl
    | 1, _ => exact absurd rfl hne
    | 2, _ => rfl
    | 3, _ => rfl) (fun j hj hne => by
    match j, hj with
    | 0, _ => rfl
    | 1, _ => exact absurd rfl hne
    | 2, _ => rfl
    | 3, _ => rfl)

set_option maxHeartbeats 1600000 in
theorem declare_any (b : Nat) (s : ByteArray) (hs : s.size ≤ 300) (q : Tq) (S : Nat → Value) (w : World) (H : TrAt w b s q S) (G : Gd s q) (hp : pot s q ≤ 6000) (hl : q.ls.length ≤ 900) :
    Calls Try.prog 129 #[.pointer (some ⟨b, 0, none⟩)] w (StPost b s S w (decQ s q)) := by
  have hP := peekR_any b s q.r w H.rdAt (G.ok hs)
  have hA : Kp (∀ w1 r1, RdTo w w1 b r1 → TrAt w1 b s { q with r := r1 } S) := ⟨fun w1 r1 T => H.rd T⟩
  have Ga : Gd s { q with r := adv s q.r } := G.r (adv_le G.le)
  have pa : pot s { q with r := adv s q.r } ≤ 6000 := potOf (potR_adv _ _) hp
  have hF : Kp (∀ w1 r1, RdTo w w1 b r1 → Calls Try.prog 161 #[.pointer (some ⟨b, 0, none⟩), .int .u8 (tok s q.r)] w1 fun e w' => e = .returned (.tuple #[.int .i64 (fnI (tok s q.r) q.ls : Nat), .bool (fnB (tok s q.r) q.ls)]) ∧ w' = w1) := ⟨fun w1 r1 T => find_any b s { q with r := r1 } S (tok s q.r) w1 (H.rd T) ⟨(G.sml (by omega)).cd, G.h0, G.h1, (G.sml (by omega)).ss, G.ll, G.vl⟩⟩
  have hL := fun w1 => isLetter_any (tok s q.r) w1
  replace hP : Kp _ := ⟨hP⟩
  cases hq : isL (tok s q.r) with
  | false =>
    have e3 : decQ s q = { q with r := rfs (adv s q.r) 11 } := by unfold decQ; rw [if_pos hq]
    rw [e3]
    rw [hq] at hL
    have hR : Kp (∀ w1, RdTo w w1 b (adv s q.r) → Calls Try.prog 158 #[.pointer (some ⟨b, 0, none⟩), .int .i64 11] w1 fun e w' => e = .returned (.tuple #[]) ∧ RdTo w1 w' b (rfs (adv s q.r) 11)) := ⟨fun w1 T => refuseR_any b s (adv s q.r) 11 w1 (hA.out w1 _ T).rdAt⟩
    clear e3 H G hF hp hl pa Ga hq
    generalize tok s q.r = t at *
    replace hL : Kp _ := ⟨hL⟩
    go_enter Try.func129, Try.ntmps129
    go_wp2_with fail
    refine hP.out.mono ?_
    rintro e w1 ⟨rfl, T1⟩
    replace T1 : Kp _ := ⟨T1⟩
    go_wp2_with fail
    refine (hL.out _).mono ?_
    rintro e w2 ⟨rfl, hw⟩
    subst hw
    go_wp2_with fail
    refine (hR.out _ T1.out).mono ?_
    rintro e w3 ⟨rfl, T3⟩
    have T4 : Kp _ := ⟨T1.out.trans T3⟩
    clear T3
    go_wp2_with fail
    first | go_end0 | refine bodyPost_ret (results_none rfl _ _ _) rfl ?_
    exact ⟨rfl, S, hA.out _ _ T4.out, TrTo.rd T4.out⟩
  | true =>
    rw [hq] at hL
    by_cases hf : fnd (tok s q.r) q.ls < q.ls.length
    · have e3 : decQ s q = { q with r := rfs (adv s q.r) 12 } := by unfold decQ; rw [if_neg (by rw [hq]; simp), if_pos hf]
      rw [e3]
      rw [(fn_yes rfl hf).1, (fn_yes rfl hf).2] at hF
      have hR : Kp (∀ w1, RdTo w w1 b (adv s q.r) → Calls Try.prog 158 #[.pointer (some ⟨b, 0, none⟩), .int .i64 12] w1 fun e w' => e = .returned (.tuple #[]) ∧ RdTo w1 w' b (rfs (adv s q.r) 12)) := ⟨fun w1 T => refuseR_any b s (adv s q.r) 12 w1 (hA.out w1 _ T).rdAt⟩
      clear e3 H G hp hl pa Ga hq hf
      generalize fnd (tok s q.r) q.ls = i at *
      generalize tok s q.r = t at *
      replace hL : Kp _ := ⟨hL⟩
      go_enter Try.func129, Try.ntmps129
      go_wp2_with fail
      refine hP.out.mono ?_
      rintro e w1 ⟨rfl, T1⟩
      replace T1 : Kp _ := ⟨T1⟩
      go_wp2_with fail
      refine (hL.out _).mono ?_
      rintro e w2 ⟨rfl, hw⟩
      subst hw
      go_wp2_with fail
      refine (hF.out _ _ T1.out).mono ?_
      rintro e w2 ⟨rfl, hw⟩
      subst hw
      go_wp2_with fail
      refine (hR.out _ T1.out).mono ?_
      rintro e w3 ⟨rfl, T3⟩
      have T4 : Kp _ := ⟨T1.out.trans T3⟩
      clear T3
      go_wp2_with fail
      first | go_end0 | refine bodyPost_ret (results_none rfl _ _ _) rfl ?_
      exact ⟨rfl, S, hA.out _ _ T4.out, TrTo.rd T4.out⟩
    · have ht : 97 ≤ tok s q.r ∧ tok s q.r ≤ 104 := by unfold isL at hq; exact of_decide_eq_true hq
      obtain ⟨r2, hr2⟩ : ∃ r2, digR s (nx (adv s q.r)) 0 (q.n - 1) = r2 := ⟨_, rfl⟩
      obtain ⟨lv, hlv⟩ : ∃ lv, dig s (nx (adv s q.r)) 0 (q.n - 1) = lv := ⟨_, rfl⟩
      have e3 : decQ s q = { q with r := r2, ls := q.ls ++ [tok s q.r], vs := q.vs ++ [lv] } := by unfold decQ; rw [if_neg (by rw [hq]; simp), if_neg hf, hr2, hlv]
      rw [e3]
      have hfe : fnd (tok s q.r) q.ls = q.ls.length := by have := fnd_le (tok s q.r) q.ls; omega
      rw [(fn_no hfe).1, (fn_no hfe).2] at hF
      have hS : Kp (∀ w1, RdTo w w1 b (adv s q.r) → Calls Try.prog 159 #[.pointer (some ⟨b, 0, none⟩)] w1 fun e w' => e = .returned (.tuple #[]) ∧ RdTo w1 w' b (nx (adv s q.r))) := ⟨fun w1 T => skipR_any b s (adv s q.r) w1 (hA.out w1 _ T).rdAt (Ga.ok hs)⟩
      have hV : Kp (∀ w1, RdTo w w1 b (nx (adv s q.r)) → Calls Try.prog 126 #[.pointer (some ⟨b, 0, none⟩)] w1 fun e w' => e = .returned (.int .i64 lv) ∧ RdTo w1 w' b r2) := ⟨fun w1 T => by
        rw [← hlv, ← hr2]
        exact takeLevel_any b s { q with r := nx (adv s q.r) } S w1 (hA.out w1 _ T) ⟨hs, nxt_le (by omega)⟩ ⟨G.n0, G.n6⟩⟩
      have hlb := dig_bd (s := s) (r := nx (adv s q.r)) G.n6
      rw [hlv] at hlb
      obtain ⟨l0, l6⟩ := hlb
      have hw8 : IntKind.u8.wrap lv = lv := by rw [wrap8]; omega
      have hvl : q.vs.length ≤ 900 := by have := G.vl; omega
      obtain ⟨i0, hi0, hz0, hz1, hz2⟩ := infoParts info_u8
      have hbl := H.lt
      clear e3 G hp pa Ga hq hf hfe hr2 hlv H ht
      generalize tok s q.r = t at *
      replace hL : Kp _ := ⟨hL⟩
      go_enter Try.func129, Try.ntmps129
      go_wp2_with fail
      refine hP.out.mono ?_
      rintro e w1 ⟨rfl, T1⟩
      replace T1 : Kp _ := ⟨T1⟩
      go_wp2_with fail
      refine (hL.out _).mono ?_
      rintro e w2 ⟨rfl, hw⟩
      subst hw
      go_wp2_with fail
      refine (hF.out _ _ T1.out).mono ?_
      rintro e w2 ⟨rfl, hw⟩
      subst hw
      go_wp2_with fail
      refine (hS.out _ T1.out).mono ?_
      rintro e w3 ⟨rfl, T3⟩
      have T4 : Kp _ := ⟨T1.out.trans T3⟩
      clear T3
      go_wp2_with fail
      refine (hV.out _ T4.out).mono ?_
      rintro e w4 ⟨rfl, T5⟩
      have T6 : Kp _ := ⟨T4.out.trans T5⟩
      have A6 := hA.out _ _ T6.out
      have c41 : w4.cell? ⟨b, 41, none⟩ = some (S 0) := A6.c 0 (by omega)
      have f41 := A6.f 41 (by omega)
      have hlt := A6.lt
      have hrow : w4.ownsRow (b + 1) 5 1 (S 0) q.ls.length (q.ls.map (Value.int .u8)) := A6.o 0 (by omega)
      have hnb : some b ≠ (S 0).ownBlock := fun e => by have := (hrow.lt _ e.symm).1; omega
      replace hrow : Kp _ := ⟨hrow⟩
      replace hnb : Kp _ := ⟨hnb⟩
      replace A6 : Kp _ := ⟨A6⟩
      clear T5
      go_wp2_with (at_builtin; refine wpList_append_own_at _ rfl _ _ 58 rfl (b + 1) 5 i0 (.int .u8 0) 1 1 Try.underlying58 hi0 hz0 hz1 hz2 rfl (by decide) _ _ _ rfl (hrow.out.alloc _) ⟨w4.heap.size, 0, none⟩ 1 1 [.int .u8 t] rfl rfl ?a1 ?a2 ?a3 ?a4 ?a5 ?_)
      case a1 =>
        intro j u hj
        match j, hj with
        | 0, hj => simp at hj; subst hj; simp [Addr.add]
      case a2 => intro u hu; simp at hu; subst hu; rfl
      case a3 => unfold maxLen; omega
      case a4 => omega
      case a5 => simp; omega
      intro v' w5 hown hgrow _ hat
      have bel : Below w4.heap.size w4 (w4.alloc (.cells #[.int .u8 t] 5)) := (Below.refl _ _).alloc (Nat.le_refl _) _
      have hR := told_ls A6.out bel hgrow hown (by simpa using hat)
      have a1 : w5.cell? ⟨b, 41, none⟩ = some (S 0) := by
        rw [World.cell?_of_block (w := w4.alloc (.cells #[.int .u8 t] 5)) (hgrow.block b (by simp; omega) hnb.out), bel.cell (p := ⟨b, 41, none⟩) hlt]
        exact c41
      have f1 : w5.frozen? ⟨b, 41, none⟩ = false := by
        rw [World.frozen?_of_block (w := w4.alloc (.cells #[.int .u8 t] 5)) (hgrow.block b (by simp; omega) hnb.out), bel.frozen (p := ⟨b, 41, none⟩) hlt]
        exact f41
      obtain ⟨pp, cc, hv⟩ := orow_len hown
      subst hv
      obtain ⟨S2, hS2⟩ : ∃ S2, S2 = fun j => if j = 0 then .slice pp (q.ls.length + 1) cc else S j := ⟨_, rfl⟩
      rw [← hS2] at hR
      obtain ⟨w6, hw6⟩ : ∃ w6, w6 = w5.setCell ⟨b, 41, none⟩ (.slice pp (q.ls.length + 1) cc) := ⟨_, rfl⟩
      rw [← hw6] at hR
      obtain ⟨A7, T7⟩ := hR
      have c42 : w6.cell? ⟨b, 42, none⟩ = some (S2 1) := A7.c 1 (by omega)
      have f42 := A7.f 42 (by omega)
      have hlt6 := A7.lt
      have hrow2 : w6.ownsRow (b + 1) 5 1 (S2 1) q.vs.length (q.vs.map (Value.int .u8)) := A7.o 1 (by omega)
      have hnb2 : some b ≠ (S2 1).ownBlock := fun e => by have := (hrow2.lt _ e.symm).1; omega
      have T8 : Kp (TrTo b b S S2 w w6) := ⟨(TrTo.rd T6.out).trans T7⟩
      replace hrow2 : Kp _ := ⟨hrow2⟩
      replace hnb2 : Kp _ := ⟨hnb2⟩
      replace A7 : Kp _ := ⟨A7⟩
      replace hS2 : Kp _ := ⟨hS2⟩
      replace hw6 : Kp _ := ⟨hw6⟩
      clear hown hgrow hat hrow hnb T7 A6 c41 f41
      have c42' : (w5.setCell ⟨b, 41, none⟩ (.slice pp (q.ls.length + 1) cc)).cell? ⟨b, 42, none⟩ = some (S2 1) := by rw [← hw6.out]; exact c42
      have hrow2u : Kp ((w5.setCell ⟨b, 41, none⟩ (.slice pp (q.ls.length + 1) cc)).ownsRow (b + 1) 5 1 (S2 1) q.vs.length (q.vs.map (Value.int .u8))) := ⟨by rw [← hw6.out]; exact hrow2.out⟩
      go_wp2_with (at_builtin; refine wpList_append_own_at _ rfl _ _ 58 rfl (b + 1) 5 i0 (.int .u8 0) 1 1 Try.underlying58 hi0 hz0 hz1 hz2 rfl (by decide) _ _ _ rfl (hrow2u.out.alloc _) ⟨w5.heap.size, 0, none⟩ 1 1 [.int .u8 lv] rfl rfl ?b1 ?b2 ?b3 ?b4 ?b5 ?_)
      case b2 => rfl
      case b3 => unfold maxLen; omega
      case b4 => omega
      case b5 => have := hlt6; rw [hw6.out] at this; simp at this; omega
      intro v2 w7 hown2 hgrow2 _ hat2
      rw [← hw6.out] at hgrow2
      have hsz6 : w5.heap.size = w6.heap.size := by rw [hw6.out]; simp
      have bel2 : Below w6.heap.size w6 (w6.alloc (.cells #[.int .u8 lv] 5)) := (Below.refl _ _).alloc (Nat.le_refl _) _
      have hR2 := told_vs A7.out bel2 hgrow2 hown2 (by rw [show (w6.alloc (.cells #[.int .u8 lv] 5)).heap.size = w5.heap.size + 1 from by rw [hsz6]; simp]; simpa using hat2)
      have a2 : w7.cell? ⟨b, 42, none⟩ = some (S2 1) := by
        rw [World.cell?_of_block (w := w6.alloc (.cells #[.int .u8 lv] 5)) (hgrow2.block b (by simp; omega) hnb2.out), bel2.cell (p := ⟨b, 42, none⟩) hlt6]
        exact c42
      have f2 : w7.frozen? ⟨b, 42, none⟩ = false := by
        rw [World.frozen?_of_block (w := w6.alloc (.cells #[.int .u8 lv] 5)) (hgrow2.block b (by simp; omega) hnb2.out), bel2.frozen (p := ⟨b, 42, none⟩) hlt6]
        exact f42
      obtain ⟨p2, cc2, hv2⟩ := orow_len hown2
      subst hv2
      replace hR2 : Kp _ := ⟨hR2⟩
      clear hown2 hgrow2 hat2 hrow2 hnb2
      go_wp2_with fail
      first | go_end0 | refine bodyPost_ret (results_none rfl _ _ _) rfl ?_
      exact ⟨rfl, _, hR2.out.1, T8.out.trans hR2.out.2⟩
end Go.Proofs.Ytcnbifdlkalimaa
