/-
  The walks of the document's translating: translate; for every text.
-/
import Derived.Test.YtcnbifdlkalimaaGreatRdrE
import Derived.Test.YtcnbifdlkalimaaGreatRdrF
import Derived.Test.YtcnbifdlkalimaaGreatTrnD
import Derived.Test.YtcnbifdlkalimaaGreatRefB
import Derived.OwnWalk
import Derived.Deep.RegionHeld3
namespace Go.Proofs.YtcnbifdlkalimaaGreat
open Go.RowKit
set_option linter.unusedVariables false
set_option maxRecDepth 100000

theorem results_tmp4 {fn : Func} {t u v x : Tmp} (h : fn.results = #[.tmp t, .tmp u, .tmp v, .tmp x]) (tmps : Array Value) (P : Program) (w : World) :
    (results fn tmps).run P w = .ok (.tuple #[tmps.getD t undef, tmps.getD u undef, tmps.getD v undef, tmps.getD x undef]) w := by
  simp [results, h]

/-- what is left: the file, the place, the error; where there is a file, the source -/
def TPost (s : ByteArray) (w : World) (e : Ending) (w' : World) : Prop := ∃ v, e = .returned (.tuple #[v, .string (transF s), .int .i64 (transA s), .int .i64 (transE s)]) ∧ Below w.heap.size w w' ∧
  (transE s = 0 → ∃ rb sb B tp S sv, v = .pointer (some ⟨sb, 0, none⟩) ∧ PsAt w' rb sb B s (readP s).1 (tabP s) tp S sv ∧ IRow w' B S tp (readP s).2)
theorem tpost {s : ByteArray} {w w' : World} {e : Ending} {F : ByteArray} {A E : Int} (hF : transF s = F) (hA : transA s = A) (hE : transE s = E) (hz : E ≠ 0) (v : Value) (he : e = .returned (.tuple #[v, .string F, .int .i64 A, .int .i64 E])) (hb : Below w.heap.size w w') : TPost s w e w' := ⟨v, by rw [hF, hA, hE]; exact he, hb, fun c => absurd (hE.symm.trans c) hz⟩
theorem tpost0 {s : ByteArray} {w w' : World} {e : Ending} {F : ByteArray} {A : Int} (hF : transF s = F) (hA : transA s = A) (hE : transE s = 0) {rb sb B : Nat} {tp : Value} {S : Nat → Value} {sv : List (Value × Value)} (v : Value) (hv : v = .pointer (some ⟨sb, 0, none⟩)) (A1 : PsAt w' rb sb B s (readP s).1 (tabP s) tp S sv) (I1 : IRow w' B S tp (readP s).2) (he : e = .returned (.tuple #[v, .string F, .int .i64 A, .int .i64 0])) (hb : Below w.heap.size w w') : TPost s w e w' := ⟨v, by rw [hF, hA, hE]; exact he, hb, fun _ => ⟨rb, sb, B, tp, S, sv, hv, A1, I1⟩⟩

set_option maxHeartbeats 6400000 in
theorem translateP_any (s : ByteArray) (w : World) (hs : s.size ≤ maxLen) : Calls Tryz.prog 30 #[.string s] w (TPost s w) := by
  by_cases h3 : 300 < s.size
  · have eF : transF s = ⟨#[]⟩ := if_pos (.inl h3)
    have eA : transA s = 0 := if_pos h3
    have eE : transE s = 1 := if_pos h3
    have hP := fun e w' v => tpost (e := e) (w := w) (w' := w') eF eA eE (by omega) v
    replace hP : Kp _ := ⟨hP⟩
    have h3i : (300 : Int) < (s.size : Int) := by omega
    unfold maxLen at hs
    clear eF eA eE
    go_enter Tryz.func30, Tryz.ntmps30
    go_wp2_with fail
    (try simp only [Exit.inBlock, Exit.then]); refine bodyPost_ret (results_tmp4 rfl _ _ _) rfl ?_
    exact hP.out _ _ _ rfl (Below.refl _ _)
  · have hs3 : s.size ≤ 300 := by omega
    have hPa := parse_any s w hs3
    have h3i : ¬ (300 : Int) < (s.size : Int) := by omega
    by_cases he : (endP s).er = 0
    · obtain ⟨hn, _, hvs, _, _, n1, n6, hEx, hSm, hmem, hcd⟩ := (read_sim s).ok he
      have hcb := (read_bd5 hs3).1
      have hvb := (read_bd5 hs3).2
      rw [hcd] at hcb
      have hpn := (read_sim s).p
      have htb : (tabP s).size ≤ maxLen := by
        unfold tabP maxLen
        rw [bs_size, cells_len]
        have : (nP s).toNat ≤ 6 := by omega
        have := Nat.mul_le_mul this this
        omega
      have hLv := fun W => levels_ref (tabP s) W htb
      have hOne := fun rb sb B tp S sv => oneP_any rb sb B s (tabP s) tp (readP s).1 S sv hEx hSm ((readP s).1.sm.length + 1)
      have hll := als_len hEx hSm (readP s).2 0 hmem
      obtain ⟨C, hC⟩ : ∃ C, bs (als (readP s).1.ex (readP s).1.sm (readP s).2 0) = C := ⟨_, rfl⟩
      have hAll : Kp (∀ rb sb B tp S sv W, PsAt W rb sb B s (readP s).1 (tabP s) tp S sv → IRow W B S tp (readP s).2 → Calls Tryz.prog 77 #[.pointer (some ⟨sb, 0, none⟩), tp, .int .i64 0] W fun en w' => en = .returned (.string C) ∧ Below W.heap.size W w') := ⟨fun rb sb B tp S sv W A I => by
        rw [← hC]
        exact allP_any rb sb B s (tabP s) tp (readP s).1 S sv _ ⟨hOne rb sb B tp S sv⟩ (readP s).2 tp 0 W A I (fun m hm => ⟨by have := hmem m hm; omega, hmem m hm⟩) (by omega) (by omega)⟩
      have hCs : C.size = (codP s).length := by rw [← hC, bs_size]; rfl
      have hCb : C.size ≤ 5000 := by rw [← hC, bs_size]; omega
      obtain ⟨ch, hch⟩ : ∃ ch, C.size / 2 = ch := ⟨_, rfl⟩
      have hLo := fun W => long_any C W (by omega)
      rw [hch] at hLo
      have hchc : (codP s).length / 2 = ch := by rw [← hCs]; exact hch
      have hT0 : (if 300 < s.size ∨ (endP s).er ≠ 0 ∨ levE (tabP s) ≠ 0 ∨ 200 < (codP s).length / 2 then bs [] else fileP s) = transF s := rfl
      have eA : transA s = 0 := by unfold transA; rw [if_neg h3, if_neg (by rw [he]; simp)]
      have hE0 : transE s = if levE (tabP s) ≠ 0 then levE (tabP s) else if 200 < ch then 13 else 0 := by unfold transE; rw [if_neg h3, if_neg (by rw [he]; simp), hchc]
      rw [hchc] at hT0
      obtain ⟨le, hle⟩ : ∃ le, levE (tabP s) = le := ⟨_, rfl⟩
      rw [hle] at hT0 hE0
      have hLv : Kp (∀ W, Calls Tryz.prog 46 #[.string (tabP s)] W fun e w' => e = .returned (.tuple #[.int .i64 (levN (tabP s)), .int .i64 le]) ∧ w' = W) := ⟨fun W => by rw [← hle]; exact hLv W⟩
      have hfile : ¬ le ≠ 0 → ¬ 200 < ch → transF s = ⟨#[83]⟩ ++ bs [nP s % 256] ++ tabP s ++ bs [((bs (readP s).1.vs).size : Int) % 256] ++ bs (readP s).1.vs ++ bs [(ch : Int) % 256] ++ C := fun a b => by
        rw [← hT0, if_neg (by intro c; rcases c with c | c | c | c <;> omega)]
        unfold fileP
        rw [hpn.2.2, bs_size, hchc, ← hC, show nP s % 256 = nP s from by omega, show bs [83, nP s] = (⟨#[83]⟩ : ByteArray) ++ bs [nP s] from by rw [show ([83, nP s] : List Int) = [83] ++ [nP s] from rfl, bs_append]; rfl]
        rfl
      have hvz : (bs (readP s).1.vs).size ≤ 1000 := by rw [bs_size, hpn.2.2, ← hvs]; exact hvb
      have htz : (tabP s).size ≤ 36 := by
        unfold tabP
        rw [bs_size, cells_len]
        have : (nP s).toNat ≤ 6 := by omega
        have := Nat.mul_le_mul this this
        omega
      have hpnn := hpn.1
      have hPa2 : Calls Tryz.prog 76 #[.string s] w fun e w' => Below w.heap.size w w' ∧ ∃ rb sb B tp S sv, e = .returned (.tuple #[.pointer (some ⟨sb, 0, none⟩), .int .i64 0, .int .i64 0]) ∧ PsAt w' rb sb B s (readP s).1 (tabP s) tp S sv ∧ IRow w' B S tp (readP s).2 := hPa.mono fun e w' h => ⟨h.1, by
        rcases h.2 with c | c
        · exact absurd he c.1
        · exact c.2⟩
      obtain ⟨Vv, hVv⟩ : ∃ V, bs (readP s).1.vs = V := ⟨_, rfl⟩
      rw [hVv] at hfile hvz
      obtain ⟨nn, hnn⟩ : ∃ nn, nP s = nn := ⟨_, rfl⟩
      rw [hnn] at hfile hpnn
      obtain ⟨V1, hV1⟩ : ∃ V, bs [nn % 256] = V := ⟨_, rfl⟩
      obtain ⟨V2, hV2⟩ : ∃ V, bs [(Vv.size : Int) % 256] = V := ⟨_, rfl⟩
      obtain ⟨V3, hV3⟩ : ∃ V, bs [(ch : Int) % 256] = V := ⟨_, rfl⟩
      have z1 : V1.size = 1 := by rw [← hV1, bs_size]; rfl
      have z2 : V2.size = 1 := by rw [← hV2, bs_size]; rfl
      have z3 : V3.size = 1 := by rw [← hV3, bs_size]; rfl
      have hB1 := fun W => byteOfP_any nn W
      have hB2 := fun W => byteOfP_any (Vv.size : Int) W
      have hB3 := fun W => byteOfP_any (ch : Int) W
      rw [hV1] at hB1 hfile
      rw [hV2] at hB2 hfile
      rw [hV3] at hB3 hfile
      have hcb3 : (ch : Int) ≤ 5000 := by omega
      have hX1 : Kp (le ≠ 0 → transF s = ⟨#[]⟩ ∧ transE s = le) := ⟨fun a => ⟨by rw [← hT0, if_pos (.inr (.inr (.inl a)))]; rfl, by rw [hE0, if_pos a]⟩⟩
      have hX2 : Kp (¬ le ≠ 0 → 200 < ch → transF s = ⟨#[]⟩ ∧ transE s = 13) := ⟨fun a c => ⟨by rw [← hT0, if_pos (.inr (.inr (.inr c)))]; rfl, by rw [hE0, if_neg a, if_pos c]⟩⟩
      have hX3 : Kp (¬ le ≠ 0 → ¬ 200 < ch → transF s = ⟨#[83]⟩ ++ V1 ++ tabP s ++ V2 ++ Vv ++ V3 ++ C ∧ transE s = 0) := ⟨fun a c => ⟨hfile a c, by rw [hE0, if_neg a, if_neg c]⟩⟩
      have hvs' : Kp (bs (readP s).1.vs = Vv) := ⟨hVv⟩
      have hP0 := fun e w' F rb sb B tp S sv v (eF : transF s = F) (eE : transE s = 0) => tpost0 (s := s) (w := w) (e := e) (w' := w') (rb := rb) (sb := sb) (B := B) (tp := tp) (S := S) (sv := sv) eF eA eE v
      replace hP0 : Kp _ := ⟨hP0⟩
      replace hPa2 : Kp _ := ⟨hPa2⟩
      replace hLo : Kp _ := ⟨hLo⟩
      replace hB1 : Kp _ := ⟨hB1⟩
      replace hB2 : Kp _ := ⟨hB2⟩
      replace hB3 : Kp _ := ⟨hB3⟩
      replace eA : Kp _ := ⟨eA⟩
      replace hpnn : Kp _ := ⟨hpnn⟩
      generalize levN (tabP s) = ln at *
      generalize tabP s = T at *
      generalize readP s = rp at *
      have hqs : Kp (1 + V1.size + T.size + V2.size + Vv.size + V3.size + C.size ≤ 100000) := ⟨by omega⟩
      clear hPa hn hvs n1 n6 hEx hSm hmem hcd hcb hvb hpn htb hOne hll hC hCs hCb hch hchc hT0 hE0 hle hfile hvz htz hVv hnn hV1 hV2 hV3 z1 z2 z3
      go_enter Tryz.func30, Tryz.ntmps30
      go_wp2_with fail
      refine hPa2.out.mono ?_
      rintro e w1 ⟨b1, rb, sb, B, tp, S, sv, rfl, A1, I1⟩
      obtain ⟨p1, q1, etp⟩ := orow_len I1.1
      subst etp
      have c1 := A1.ct
      have c6 := A1.cp
      replace A1 : Kp _ := ⟨A1⟩
      replace I1 : Kp _ := ⟨I1⟩
      replace b1 : Kp _ := ⟨b1⟩
      clear hPa2
      go_wp2_with fail
      refine (hLv.out _).mono ?_
      rintro e w2 ⟨rfl, hw2⟩
      have hw3 := hw2.symm
      clear hw2
      subst hw3
      by_cases hl0 : le = 0
      · subst hl0
        have hAl := hAll.out rb sb B _ S sv w1 A1.out I1.out
        replace hAl : Kp _ := ⟨hAl⟩
        go_wp2_with fail
        refine hAl.out.mono ?_
        rintro e w3 ⟨rfl, b3⟩
        have A3 := A1.out.step b3
        have I3 : Kp _ := ⟨I1.out.step b3⟩
        have b4 : Kp _ := ⟨b1.out.trans (b3.mono b1.out.size)⟩
        have d0 : w3.cell? ⟨sb, 0, none⟩ = some (.int .i64 nn) := by rw [← hpnn.out]; exact A3.cn
        have d1 := A3.ct
        have d3 : w3.cell? ⟨sb, 3, none⟩ = some (.string Vv) := by rw [← hvs'.out]; exact A3.cv
        replace A3 : Kp _ := ⟨A3⟩
        clear b3 A1 I1 hAll hAl c1 c6 b1
        go_wp2_with fail
        refine (hLo.out _).mono ?_
        rintro e w4 ⟨rfl, hw4⟩
        have hw5 := hw4.symm
        clear hw4
        subst hw5
        by_cases hc2 : 200 < ch
        · obtain ⟨eF, eE⟩ := hX2.out (by simp) hc2
          have hci : (200 : Int) < (ch : Int) := by omega
          have hP := fun e w' v => tpost (e := e) (w := w) (w' := w') eF eA.out eE (by omega) v
          replace hP : Kp _ := ⟨hP⟩
          clear eF eE
          go_wp2_with fail
          (try simp only [Exit.inBlock, Exit.then]); refine bodyPost_ret (results_tmp4 rfl _ _ _) rfl ?_
          exact hP.out _ _ _ rfl b4.out
        · obtain ⟨eF, eE⟩ := hX3.out (by simp) hc2
          have hci : ¬ (200 : Int) < (ch : Int) := by omega
          have hP := fun e w' tp v hv A I he hb => hP0.out e w' _ rb sb B tp S sv v eF eE hv A I he hb
          replace hP : Kp _ := ⟨hP⟩
          clear eF eE
          go_wp2_with fail
          have qn1 : ¬ 9223372036854775807 < 1 + V1.size := by have := hqs.out; omega
          have qn2 : ¬ 9223372036854775807 < 1 + V1.size + T.size := by have := hqs.out; omega
          have qn3 : ¬ 9223372036854775807 < 1 + V1.size + T.size + V2.size := by have := hqs.out; omega
          have qn4 : ¬ 9223372036854775807 < 1 + V1.size + T.size + V2.size + Vv.size := by have := hqs.out; omega
          have qn5 : ¬ 9223372036854775807 < 1 + V1.size + T.size + V2.size + Vv.size + V3.size := by have := hqs.out; omega
          have qn6 : ¬ 9223372036854775807 < 1 + V1.size + T.size + V2.size + Vv.size + V3.size + C.size := by have := hqs.out; omega
          go_region_held3 (fun w' => w'.cell? ⟨sb, 0, none⟩ = some (.int .i64 nn) ∧ w'.cell? ⟨sb, 1, none⟩ = some (.string T) ∧ w'.cell? ⟨sb, 3, none⟩ = some (.string Vv)) (go_keep) (first
            | (go_at_call_of 62 nn; refine (hB1.out _).mono ?_; rintro en w5 ⟨rfl, bb⟩; have bn : Below w3.heap.size w3 w5 := (by first | exact ((Below.refl _ _).drew).trans bb | exact Below.trans (by assumption) (bb.mono (Below.size (w := w3) (by assumption)))); have A5 := A3.out.step bn; have o0 : w5.cell? ⟨sb, 0, none⟩ = some (.int .i64 nn) := (by rw [← hpnn.out]; exact A5.cn); have o1 := A5.ct; have o3 : w5.cell? ⟨sb, 3, none⟩ = some (.string Vv) := (by rw [← hvs'.out]; exact A5.cv); clear bb A5)
            | (go_at_call_of 62 Vv; refine (hB2.out _).mono ?_; rintro en w5 ⟨rfl, bb⟩; have bn : Below w3.heap.size w3 w5 := (by first | exact ((Below.refl _ _).drew).trans bb | exact Below.trans (by assumption) (bb.mono (Below.size (w := w3) (by assumption)))); have A5 := A3.out.step bn; have o0 : w5.cell? ⟨sb, 0, none⟩ = some (.int .i64 nn) := (by rw [← hpnn.out]; exact A5.cn); have o1 := A5.ct; have o3 : w5.cell? ⟨sb, 3, none⟩ = some (.string Vv) := (by rw [← hvs'.out]; exact A5.cv); clear bb A5)
            | (go_at_call_of 62 ch; refine (hB3.out _).mono ?_; rintro en w5 ⟨rfl, bb⟩; have bn : Below w3.heap.size w3 w5 := (by first | exact ((Below.refl _ _).drew).trans bb | exact Below.trans (by assumption) (bb.mono (Below.size (w := w3) (by assumption)))); have A5 := A3.out.step bn; have o0 : w5.cell? ⟨sb, 0, none⟩ = some (.int .i64 nn) := (by rw [← hpnn.out]; exact A5.cn); have o1 := A5.ct; have o3 : w5.cell? ⟨sb, 3, none⟩ = some (.string Vv) := (by rw [← hvs'.out]; exact A5.cv); clear bb A5)
            | (go_at_call 78; refine (hLo.out _).mono ?_; rintro en w6 ⟨rfl, hw6⟩; subst hw6))
          all_goals
            have b9 : Below w3.heap.size w3 w5 := by assumption
            go_wp2_with fail
            (try simp only [Exit.inBlock, Exit.then]); refine bodyPost_ret (results_tmp4 rfl _ _ _) rfl ?_
            exact hP.out _ _ _ _ rfl (A3.out.step b9) (I3.out.step b9) rfl (b4.out.trans (b9.mono b4.out.size))
      · obtain ⟨eF, eE⟩ := hX1.out hl0
        have hk : (le != 0) = true := bne_iff_ne.2 hl0
        have hP := fun e w' v => tpost (e := e) (w := w) (w' := w') eF eA.out eE hl0 v
        replace hP : Kp _ := ⟨hP⟩
        clear eF eE
        go_wp2_with fail
        (try simp only [Exit.inBlock, Exit.then]); refine bodyPost_ret (results_tmp4 rfl _ _ _) rfl ?_
        exact hP.out _ _ _ rfl b1.out
    · have eF : transF s = ⟨#[]⟩ := if_pos (.inr (.inl he))
      have eA : transA s = (endP s).a := by unfold transA; rw [if_neg h3, if_pos he]
      have eE : transE s = (endP s).er := by unfold transE; rw [if_neg h3, if_pos he]
      have hPa2 : Calls Tryz.prog 76 #[.string s] w fun e w' => Below w.heap.size w w' ∧ e = .returned (.tuple #[.pointer none, .int .i64 (endP s).a, .int .i64 (endP s).er]) := hPa.mono fun e w' h => ⟨h.1, by
        rcases h.2 with c | c
        · exact c.2
        · exact absurd c.1 he⟩
      have hP := fun e w' v => tpost (e := e) (w := w) (w' := w') eF eA eE he v
      have hk : ((endP s).er != 0) = true := bne_iff_ne.2 he
      generalize (endP s).a = ea at *
      generalize (endP s).er = ee at *
      replace hP : Kp _ := ⟨hP⟩
      replace hPa2 : Kp _ := ⟨hPa2⟩
      clear hPa eF eA eE he
      go_enter Tryz.func30, Tryz.ntmps30
      go_wp2_with fail
      refine hPa2.out.mono ?_
      rintro e w1 ⟨b1, rfl⟩
      replace b1 : Kp _ := ⟨b1⟩
      go_wp2_with fail
      (try simp only [Exit.inBlock, Exit.then]); refine bodyPost_ret (results_tmp4 rfl _ _ _) rfl ?_
      exact hP.out _ _ _ rfl b1.out

end Go.Proofs.YtcnbifdlkalimaaGreat
