import Derived.Test.YtcnbifdlkalimaaWay1
import Derived.Test.YtcnbifdlkalimaaWay2
import Derived.Test.YtcnbifdlkalimaaHgt1
import Derived.Test.YtcnbifdlkalimaaPlainR
import Derived.Maps.AppendAt
import Derived.Deep.RegionLaw
import Derived.Deep.RegionHeld
import Derived.Test.YtcnbifdlkalimaaCnv
import Derived.Laws.IdiomStrings
import Derived.Laws.BytesArg
import Derived.Test.YtcnbifdlkalimaaPrg5
import Derived.Laws.OwnMore

/-
  The walks of the package machine: what lies in memory, push, pop, load, store, read; for every hand that keeps its bounds.
-/
namespace Go.Proofs.Ytcnbifdlkalimaa
open Go.RowKit
set_option linter.unusedVariables false
set_option maxRecDepth 100000

/-- the logs: a row each, none in another's block, all of them above the machine's own -/
structure LogsAt (w : World) (b : Nat) (lo : Int → List Int) (S : Nat → Value) : Prop where
  c : ∀ j : Nat, j < 6 → w.cell? ⟨b, 34 + j, none⟩ = some (S j)
  o : ∀ j : Nat, j < 6 → w.ownsRow (b + 1) 5 1 (S j) (lo j).length ((lo j).map (Value.int .u8))
  d : ∀ i j : Nat, i < 6 → j < 6 → i ≠ j → (S i).ownBlock = none ∨ (S i).ownBlock ≠ (S j).ownBlock

/-- block b holds the machine -/
structure MchAt (w : World) (b : Nat) (n : Int) (t v c : ByteArray) (T : Int → ByteArray) (m : Hnd) : Prop where
  lt : b < w.heap.size
  c0 : w.cell? ⟨b, 0, none⟩ = some (.int .i64 n)
  c1 : w.cell? ⟨b, 1, none⟩ = some (.string t)
  c2 : w.cell? ⟨b, 2, none⟩ = some (.string v)
  c3 : w.cell? ⟨b, 3, none⟩ = some (.string c)
  tp : ∀ j : Nat, j < 6 → w.cell? ⟨b, 4 + j, none⟩ = some (.string (T j))
  pl : w.cell? ⟨b, 10, none⟩ = some (.int .i64 m.pl)
  st : ∀ j : Nat, j < 8 → w.cell? ⟨b, 11 + j, none⟩ = some (.int .i64 (m.st j))
  sp : w.cell? ⟨b, 19, none⟩ = some (.int .i64 m.sp)
  va : ∀ j : Nat, j < 8 → w.cell? ⟨b, 20 + j, none⟩ = some (.int .i64 (m.va j))
  po : ∀ j : Nat, j < 6 → w.cell? ⟨b, 28 + j, none⟩ = some (.int .i64 (min (m.po j) (T j).size : Nat))
  lg : ∃ S, LogsAt w b m.lo S
  f : ∀ j : Nat, j < 40 → w.frozen? ⟨b, j, none⟩ = false

theorem row_step {w w' : World} {B : Nat} {e : TypeId} {v : Value} {k : Nat} {xs : List Value} (h : w.ownsRow B e 1 v k xs) (hb : Below w.heap.size w w') : w'.ownsRow B e 1 v k xs := by
  refine ⟨h.1, ?_⟩
  rcases h.2 with hn | ⟨g, cap, cur, rfl, hbb, hgg, rest⟩
  · exact .inl hn
  · exact .inr ⟨g, cap, cur, rfl, hbb, by rw [hb.block g (Array.getElem?_eq_some_iff.1 hgg).1]; exact hgg, rest⟩

/-- a cell of block b is set: the rows above it stay -/
theorem row_set {w : World} {b k : Nat} {x : Value} {e : TypeId} {v : Value} {n : Nat} {xs : List Value} (h : w.ownsRow (b + 1) e 1 v n xs) : (w.setCell ⟨b, k, none⟩ x).ownsRow (b + 1) e 1 v n xs := by
  refine ⟨h.1, ?_⟩
  rcases h.2 with hn | ⟨g, cap, cur, rfl, hbb, hgg, rest⟩
  · exact .inl hn
  · refine .inr ⟨g, cap, cur, rfl, hbb, ?_, rest⟩
    have := ((But.refl b w.heap.size w).setCell k x).block g (Array.getElem?_eq_some_iff.1 hgg).1 (by omega)
    rw [this]; exact hgg

theorem LogsAt.step {w w1 : World} {b : Nat} {lo : Int → List Int} {S : Nat → Value} (H : LogsAt w b lo S) (hlt : b < w.heap.size) (hb : Below w.heap.size w w1) : LogsAt w1 b lo S :=
  ⟨fun j hj => by rw [hb.cell (p := ⟨b, 34 + j, none⟩) hlt]; exact H.c j hj, fun j hj => row_step (H.o j hj) hb, H.d⟩

theorem MchAt.step {w w1 : World} {b : Nat} {n : Int} {t v c : ByteArray} {T : Int → ByteArray} {m : Hnd} (H : MchAt w b n t v c T m) (hb : Below w.heap.size w w1) : MchAt w1 b n t v c T m := by
  have key : ∀ k : Nat, w1.cell? ⟨b, k, none⟩ = w.cell? ⟨b, k, none⟩ := fun k => hb.cell (p := ⟨b, k, none⟩) H.lt
  obtain ⟨S, hS⟩ := H.lg
  exact ⟨Nat.lt_of_lt_of_le H.lt hb.size, (key _).trans H.c0, (key _).trans H.c1, (key _).trans H.c2, (key _).trans H.c3, fun j hj => (key _).trans (H.tp j hj), (key _).trans H.pl, fun j hj => (key _).trans (H.st j hj), (key _).trans H.sp, fun j hj => (key _).trans (H.va j hj), fun j hj => (key _).trans (H.po j hj), ⟨S, hS.step H.lt hb⟩, fun j hj => by rw [hb.frozen (p := ⟨b, j, none⟩) H.lt]; exact H.f j hj⟩

/-- a cell below the logs is set -/
theorem LogsAt.set {w : World} {b k : Nat} {x : Value} {lo : Int → List Int} {S : Nat → Value} (H : LogsAt w b lo S) (hk : k < 34) : LogsAt (w.setCell ⟨b, k, none⟩ x) b lo S :=
  ⟨fun j hj => by rw [cell_off _ _ _ _ _ (by omega)]; exact H.c j hj, fun j hj => row_set (H.o j hj), H.d⟩

theorem MchAt.setPl {w : World} {b : Nat} {n : Int} {t v c : ByteArray} {T : Int → ByteArray} {m : Hnd} (H : MchAt w b n t v c T m) (y : Int) : MchAt (w.setCell ⟨b, 10, none⟩ (.int .i64 y)) b n t v c T { m with pl := y } := by
  obtain ⟨S, hS⟩ := H.lg
  have key : ∀ k : Nat, k ≠ 10 → (w.setCell ⟨b, 10, none⟩ (.int .i64 y)).cell? ⟨b, k, none⟩ = w.cell? ⟨b, k, none⟩ := fun k hk => cell_off _ _ _ _ _ (by omega)
  exact ⟨by simpa using H.lt, (key _ (by omega)).trans H.c0, (key _ (by omega)).trans H.c1, (key _ (by omega)).trans H.c2, (key _ (by omega)).trans H.c3, fun j hj => (key _ (by omega)).trans (H.tp j hj), World.cell?_setCell_same _ _ _ H.pl, fun j hj => (key _ (by omega)).trans (H.st j hj), (key _ (by omega)).trans H.sp, fun j hj => (key _ (by omega)).trans (H.va j hj), fun j hj => (key _ (by omega)).trans (H.po j hj), ⟨S, hS.set (by omega)⟩, fun j hj => by rw [World.frozen?_setCell]; exact H.f j hj⟩

theorem MchAt.setSp {w : World} {b : Nat} {n : Int} {t v c : ByteArray} {T : Int → ByteArray} {m : Hnd} (H : MchAt w b n t v c T m) (y : Int) : MchAt (w.setCell ⟨b, 19, none⟩ (.int .i64 y)) b n t v c T { m with sp := y } := by
  obtain ⟨S, hS⟩ := H.lg
  have key : ∀ k : Nat, k ≠ 19 → (w.setCell ⟨b, 19, none⟩ (.int .i64 y)).cell? ⟨b, k, none⟩ = w.cell? ⟨b, k, none⟩ := fun k hk => cell_off _ _ _ _ _ (by omega)
  exact ⟨by simpa using H.lt, (key _ (by omega)).trans H.c0, (key _ (by omega)).trans H.c1, (key _ (by omega)).trans H.c2, (key _ (by omega)).trans H.c3, fun j hj => (key _ (by omega)).trans (H.tp j hj), (key _ (by omega)).trans H.pl, fun j hj => (key _ (by omega)).trans (H.st j hj), World.cell?_setCell_same _ _ _ H.sp, fun j hj => (key _ (by omega)).trans (H.va j hj), fun j hj => (key _ (by omega)).trans (H.po j hj), ⟨S, hS.set (by omega)⟩, fun j hj => by rw [World.frozen?_setCell]; exact H.f j hj⟩

theorem MchAt.setSt {w : World} {b : Nat} {n : Int} {t v c : ByteArray} {T : Int → ByteArray} {m : Hnd} (H : MchAt w b n t v c T m) {p : Nat} (hp : p < 8) (y : Int) : MchAt (w.setCell ⟨b, 11 + p, none⟩ (.int .i64 y)) b n t v c T { m with st := up m.st p y } := by
  obtain ⟨S, hS⟩ := H.lg
  have key : ∀ k : Nat, k ≠ 11 + p → (w.setCell ⟨b, 11 + p, none⟩ (.int .i64 y)).cell? ⟨b, k, none⟩ = w.cell? ⟨b, k, none⟩ := fun k hk => cell_off _ _ _ _ _ (by omega)
  refine ⟨by simpa using H.lt, (key _ (by omega)).trans H.c0, (key _ (by omega)).trans H.c1, (key _ (by omega)).trans H.c2, (key _ (by omega)).trans H.c3, fun j hj => (key _ (by omega)).trans (H.tp j hj), (key _ (by omega)).trans H.pl, fun j hj => ?_, (key _ (by omega)).trans H.sp, fun j hj => (key _ (by omega)).trans (H.va j hj), fun j hj => (key _ (by omega)).trans (H.po j hj), ⟨S, hS.set (by omega)⟩, fun j hj => by rw [World.frozen?_setCell]; exact H.f j hj⟩
  by_cases e : j = p
  · subst e
    rw [World.cell?_setCell_same _ _ _ (H.st j hj)]
    show _ = some (Value.int .i64 (up m.st (j : Int) y j))
    rw [up_at]
  · rw [key _ (by omega)]
    show _ = some (Value.int .i64 (up m.st (p : Int) y j))
    rw [up_ne (by omega)]
    exact H.st j hj

theorem MchAt.setVa {w : World} {b : Nat} {n : Int} {t v c : ByteArray} {T : Int → ByteArray} {m : Hnd} (H : MchAt w b n t v c T m) {p : Nat} (hp : p < 8) (y : Int) : MchAt (w.setCell ⟨b, 20 + p, none⟩ (.int .i64 y)) b n t v c T { m with va := up m.va p y } := by
  obtain ⟨S, hS⟩ := H.lg
  have key : ∀ k : Nat, k ≠ 20 + p → (w.setCell ⟨b, 20 + p, none⟩ (.int .i64 y)).cell? ⟨b, k, none⟩ = w.cell? ⟨b, k, none⟩ := fun k hk => cell_off _ _ _ _ _ (by omega)
  refine ⟨by simpa using H.lt, (key _ (by omega)).trans H.c0, (key _ (by omega)).trans H.c1, (key _ (by omega)).trans H.c2, (key _ (by omega)).trans H.c3, fun j hj => (key _ (by omega)).trans (H.tp j hj), (key _ (by omega)).trans H.pl, fun j hj => (key _ (by omega)).trans (H.st j hj), (key _ (by omega)).trans H.sp, fun j hj => ?_, fun j hj => (key _ (by omega)).trans (H.po j hj), ⟨S, hS.set (by omega)⟩, fun j hj => by rw [World.frozen?_setCell]; exact H.f j hj⟩
  by_cases e : j = p
  · subst e
    rw [World.cell?_setCell_same _ _ _ (H.va j hj)]
    show _ = some (Value.int .i64 (up m.va (j : Int) y j))
    rw [up_at]
  · rw [key _ (by omega)]
    show _ = some (Value.int .i64 (up m.va (p : Int) y j))
    rw [up_ne (by omega)]
    exact H.va j hj

theorem MchAt.setPo {w : World} {b : Nat} {n : Int} {t v c : ByteArray} {T : Int → ByteArray} {m : Hnd} (H : MchAt w b n t v c T m) {p : Nat} (hp : p < 6) (y k : Nat) (hy : min y (T p).size = k) : MchAt (w.setCell ⟨b, 28 + p, none⟩ (.int .i64 k)) b n t v c T { m with po := up m.po p y } := by
  obtain ⟨S, hS⟩ := H.lg
  have key : ∀ i : Nat, i ≠ 28 + p → (w.setCell ⟨b, 28 + p, none⟩ (.int .i64 k)).cell? ⟨b, i, none⟩ = w.cell? ⟨b, i, none⟩ := fun k hk => cell_off _ _ _ _ _ (by omega)
  refine ⟨by simpa using H.lt, (key _ (by omega)).trans H.c0, (key _ (by omega)).trans H.c1, (key _ (by omega)).trans H.c2, (key _ (by omega)).trans H.c3, fun j hj => (key _ (by omega)).trans (H.tp j hj), (key _ (by omega)).trans H.pl, fun j hj => (key _ (by omega)).trans (H.st j hj), (key _ (by omega)).trans H.sp, fun j hj => (key _ (by omega)).trans (H.va j hj), fun j hj => ?_, ⟨S, hS.set (by omega)⟩, fun j hj => by rw [World.frozen?_setCell]; exact H.f j hj⟩
  by_cases e : j = p
  · subst e
    rw [World.cell?_setCell_same _ _ _ (H.po j hj)]
    show _ = some (Value.int .i64 (min (up m.po (j : Int) y j) (T j).size : Nat))
    rw [up_at, hy]
  · rw [key _ (by omega)]
    show _ = some (Value.int .i64 (min (up m.po (p : Int) y j) (T j).size : Nat))
    rw [up_ne (by omega)]
    exact H.po j hj

/-- a tape that has nothing left -/
theorem MchAt.over {w : World} {b : Nat} {n : Int} {t v c : ByteArray} {T : Int → ByteArray} {m : Hnd} (H : MchAt w b n t v c T m) {p : Nat} (hs : (T p).size ≤ m.po p) : MchAt w b n t v c T { m with po := up m.po p (m.po p + 1) } := by
  refine ⟨H.lt, H.c0, H.c1, H.c2, H.c3, H.tp, H.pl, H.st, H.sp, H.va, fun j hj => ?_, H.lg, H.f⟩
  rw [H.po j hj]
  show _ = some (Value.int .i64 (min (up m.po (p : Int) (m.po p + 1) j) (T j).size : Nat))
  by_cases e : (j : Int) = p
  · have e2 : j = p := by omega
    subst e2
    rw [up_at]
    congr 3
    omega
  · rw [up_ne e]

set_option maxHeartbeats 800000 in
theorem push_any (b : Nat) (n : Int) (t v c : ByteArray) (T : Int → ByteArray) (m : Hnd) (x : Int) (w : World) (H : MchAt w b n t v c T m) (h0 : 0 ≤ m.sp) (h8 : m.sp < 8) :
    Calls Try.prog 116 #[.pointer (some ⟨b, 0, none⟩), .int .i64 x] w fun e w' => e = .returned (.tuple #[]) ∧ MchAt w' b n t v c T { m with sp := m.sp + 1, st := up m.st m.sp x } ∧ Below b w w' := by
  obtain ⟨p, hp⟩ : ∃ p : Nat, m.sp = p := ⟨m.sp.toNat, by omega⟩
  have hp8 : p < 8 := by omega
  have a0 := H.sp
  have a1 := H.st p hp8
  have f0 := H.f 19 (by omega)
  have f1 := H.f (11 + p) (by omega)
  rw [hp] at a0
  have H1 := H.setSt hp8 x
  have a2 : (w.setCell ⟨b, 11 + p, none⟩ (.int .i64 x)).cell? ⟨b, 19, none⟩ = some (.int .i64 p) := by rw [← hp]; exact H1.sp
  have f2 := H1.f 19 (by omega)
  have H2 := H1.setSp (p + 1)
  have hB : Below b w ((w.setCell ⟨b, 11 + p, none⟩ (.int .i64 x)).setCell ⟨b, 19, none⟩ (.int .i64 (p + 1))) := ((Below.refl b w).setCell (Nat.le_refl _) _).setCell (Nat.le_refl _) _
  replace H2 : Kp (MchAt ((w.setCell ⟨b, 11 + p, none⟩ (.int .i64 x)).setCell ⟨b, 19, none⟩ (.int .i64 (p + 1))) b n t v c T { m with sp := m.sp + 1, st := up m.st m.sp x }) := ⟨by rw [hp]; exact H2⟩
  have hpi : (p : Int) < 8 := by omega
  clear H H1 hp h0 h8
  go_enter Try.func116, Try.ntmps116
  go_wp2_with fail
  go_region
  all_goals
    go_wp2
    first | go_end0 | refine bodyPost_ret (results_none rfl _ _ _) rfl ?_
    exact ⟨rfl, H2.out.step (Below.refl _ _).drew, hB.drew⟩

set_option maxHeartbeats 800000 in
theorem pop_any (b : Nat) (n : Int) (t v c : ByteArray) (T : Int → ByteArray) (m : Hnd) (w : World) (H : MchAt w b n t v c T m) (h0 : 1 ≤ m.sp) (h8 : m.sp ≤ 8) :
    Calls Try.prog 120 #[.pointer (some ⟨b, 0, none⟩)] w fun e w' => e = .returned (.int .i64 (m.st (m.sp - 1))) ∧ MchAt w' b n t v c T { m with sp := m.sp - 1 } ∧ Below b w w' := by
  obtain ⟨p, hp⟩ : ∃ p : Nat, m.sp = p + 1 := ⟨(m.sp - 1).toNat, by omega⟩
  have hp8 : p < 8 := by omega
  have a0 := H.sp
  have f0 := H.f 19 (by omega)
  rw [hp] at a0
  have H1 := H.setSp p
  have a1 := H1.st p hp8
  have a2 := H1.sp
  have hB : Below b w (w.setCell ⟨b, 19, none⟩ (.int .i64 p)) := (Below.refl b w).setCell (Nat.le_refl _) _
  have e1 : m.sp - 1 = p := by omega
  rw [e1]
  obtain ⟨x, hx⟩ : ∃ x, m.st p = x := ⟨_, rfl⟩
  have a1' : (w.setCell ⟨b, 19, none⟩ (.int .i64 p)).cell? ⟨b, 11 + p, none⟩ = some (.int .i64 x) := by rw [← hx]; exact a1
  have a2' : (w.setCell ⟨b, 19, none⟩ (.int .i64 p)).cell? ⟨b, 19, none⟩ = some (.int .i64 p) := a2
  rw [hx]
  replace H1 : Kp _ := ⟨H1⟩
  have hpi : (p : Int) < 8 := by omega
  have hp1 : (p : Int) + 1 - 1 = p := by omega
  clear H hp h0 h8 a1 a2 e1 hx
  go_enter Try.func120, Try.ntmps120
  go_wp2_with fail
  go_region
  all_goals
    go_wp2
    go_ret
    exact ⟨rfl, H1.out.step (Below.refl _ _).drew, hB.drew⟩
end Go.Proofs.Ytcnbifdlkalimaa

/-
  The walks of the package machine, second part: load, store, read, write, reckon; for every hand that keeps its bounds.
-/
namespace Go.Proofs.Ytcnbifdlkalimaa
open Go.RowKit
set_option linter.unusedVariables false
set_option maxRecDepth 100000

/-- append to a row of one's own, as one step of a region that draws -/
theorem step_append_at {P : Program} {ops : Array Oper} {o : Oper} {a : Act} {w : World} {K : Act → World → Prop} {Q : Exit → Act → World → Prop} {E : Prop}
    (hgd : o.guard = none) (s x : Operand) (t : TypeId) (ho : o.op = Op.call { callee := Callee.builtin Builtin.append, args := #[s, x], argTypes := #[t, t] })
    (base : Nat) (e : TypeId) (i : TypeInfo) (z : Value) (bytes : Nat) (ht : P.underlying t = some (.slice e)) (hi : P.info? e = some i) (hz : i.zero = some z)
    (hsize : i.size = 1) (hby : i.bytes = bytes) (hzs : z.cells.size = 1)
    (v : Value) (n : Nat) (xs : List Value) (hs : a.eval s = v) (hown : w.ownsRow base e 1 v n xs)
    (ad : Addr) (u : Value) (hx : a.eval x = .slice (some ad) 1 1) (hu : w.cell? (ad.add 0) = some u) (h1 : u.oneCell' = true)
    (h63 : n + 1 ≤ maxLen) (hbytes : (n + 1) * bytes ≤ 140737488355328) (hbase : base ≤ w.heap.size)
    (hK : ∀ v' w', w'.ownsRow base e 1 v' (n + 1) (xs ++ [u]) → w.grownBy w' v.ownBlock → (v'.ownBlock = v.ownBlock ∨ v'.ownBlock = some w.heap.size) → K (a.put o.dst v') w') :
    if Region.wanted o (yielded ops a.tmps) = true then Oper.wp P o a w K Q else E := by
  have hw : Region.wanted o (yielded ops a.tmps) = true := by simp [Region.wanted, hgd]
  rw [if_pos hw]
  obtain ⟨v', w', hr, h2, h3, _, h5⟩ := run_append_own_at (P := P) w base t o.type e i z 1 bytes ht hi hz hsize hby hzs (by omega) v n xs hown ad 1 1 [u] rfl (fun j y hj => by
    match j, hj with
    | 0, hj => simp at hj; subst hj; exact hu) (fun y hy => by simp at hy; subst hy; exact h1) h63 hbytes hbase
  unfold Oper.wp execOp
  simp only [ho, resolve, invoke, builtin, Sem.run_bind, Sem.run_pure, Result.andThen_ok, List.map_toArray, List.map_cons, List.map_nil, hs, hx, hr]
  exact hK v' w' h2 h3 h5

/-- a value is told -/
theorem MchAt.told {w wa w3 : World} {b : Nat} {n : Int} {t v c : ByteArray} {T : Int → ByteArray} {m : Hnd} {S : Nat → Value} {l : Nat} {v' : Value} {x : Int} (H : MchAt w b n t v c T m) (hS : LogsAt w b m.lo S) (hl : l < 6) (ha : Below w.heap.size w wa) (hg : wa.grownBy w3 (S l).ownBlock)
    (hown : w3.ownsRow (b + 1) 5 1 v' ((m.lo l).length + 1) ((m.lo l).map (Value.int .u8) ++ [.int .u8 x])) (hat : v'.ownBlock = (S l).ownBlock ∨ v'.ownBlock = some wa.heap.size) :
    MchAt (w3.setCell ⟨b, 34 + l, none⟩ v') b n t v c T { m with lo := up m.lo l (m.lo l ++ [x]) } ∧ Below b w (w3.setCell ⟨b, 34 + l, none⟩ v') := by
  have hlt : b < wa.heap.size := Nat.lt_of_lt_of_le H.lt ha.size
  have hne : some b ≠ (S l).ownBlock := fun e => by have := (hS.o l hl).lt _ e.symm; omega
  have blk : w3.heap[b]? = w.heap[b]? := (hg.block b hlt hne).trans (ha.block b H.lt)
  have key0 : ∀ k : Nat, w3.cell? ⟨b, k, none⟩ = w.cell? ⟨b, k, none⟩ := fun k => World.cell?_of_block (w := w) (a := ⟨b, k, none⟩) blk
  have key : ∀ k : Nat, k ≠ 34 + l → (w3.setCell ⟨b, 34 + l, none⟩ v').cell? ⟨b, k, none⟩ = w.cell? ⟨b, k, none⟩ := fun k hk => (cell_off _ _ _ _ _ (by omega)).trans (key0 k)
  have hb3 : Below b w w3 := ⟨hg.os.trans ha.os, hg.tape.trans ha.tape, hg.output.trans ha.output, Nat.le_trans ha.size hg.size, fun k hk => (hg.block k (by omega) (fun e => by have := (hS.o l hl).lt _ e.symm; omega)).trans (ha.block k (by have := H.lt; omega))⟩
  refine ⟨⟨?_, (key _ (by omega)).trans H.c0, (key _ (by omega)).trans H.c1, (key _ (by omega)).trans H.c2, (key _ (by omega)).trans H.c3, fun j hj => (key _ (by omega)).trans (H.tp j hj), (key _ (by omega)).trans H.pl, fun j hj => (key _ (by omega)).trans (H.st j hj), (key _ (by omega)).trans H.sp, fun j hj => (key _ (by omega)).trans (H.va j hj), fun j hj => (key _ (by omega)).trans (H.po j hj), ⟨fun j => if j = l then v' else S j, ?_, ?_, ?_⟩, fun j hj => ?_⟩, hb3.setCell (Nat.le_refl _) _⟩
  · have := hg.size
    simp
    omega
  · intro j hj
    by_cases e : j = l
    · subst e
      rw [if_pos rfl]
      exact World.cell?_setCell_same _ _ _ ((key0 _).trans (hS.c j hj))
    · rw [if_neg e, key _ (by omega)]
      exact hS.c j hj
  · intro j hj
    by_cases e : j = l
    · subst e
      rw [if_pos rfl]
      show (w3.setCell ⟨b, 34 + j, none⟩ v').ownsRow (b + 1) 5 1 v' (up m.lo (j : Int) (m.lo j ++ [x]) j).length ((up m.lo (j : Int) (m.lo j ++ [x]) j).map (Value.int .u8))
      rw [up_at, List.length_append, List.map_append]
      exact row_set hown
    · rw [if_neg e]
      show (w3.setCell ⟨b, 34 + l, none⟩ v').ownsRow (b + 1) 5 1 (S j) (up m.lo (l : Int) (m.lo l ++ [x]) j).length ((up m.lo (l : Int) (m.lo l ++ [x]) j).map (Value.int .u8))
      rw [up_ne (by omega)]
      exact row_set ((row_step (hS.o j hj) ha).kept hg (hS.d j l hj hl e))
  · intro i j hi hj hij
    have old : ∀ k : Nat, k < 6 → (S k).ownBlock ≠ some wa.heap.size := fun k hk e => by have := (hS.o k hk).lt _ e; have := ha.size; omega
    show (if i = l then v' else S i).ownBlock = none ∨ (if i = l then v' else S i).ownBlock ≠ (if j = l then v' else S j).ownBlock
    by_cases e : i = l
    · subst e
      rw [if_pos rfl, if_neg (fun k => hij k.symm)]
      rcases hat with hat | hat
      · rw [hat]; exact hS.d i j hi hj hij
      · rw [hat]; exact .inr (fun k => old j hj k.symm)
    · rw [if_neg e]
      by_cases e2 : j = l
      · subst e2
        rw [if_pos rfl]
        rcases hat with hat | hat
        · rw [hat]; exact hS.d i j hi hj hij
        · rw [hat]; exact .inr (old i hi)
      · rw [if_neg e2]; exact hS.d i j hi hj hij
  · rw [World.frozen?_setCell, World.frozen?_of_block (w := w) (a := ⟨b, j, none⟩) blk]
    exact H.f j hj

set_option maxHeartbeats 800000 in
theorem loadM_any (b : Nat) (n : Int) (t v c : ByteArray) (T : Int → ByteArray) (m : Hnd) (a : Nat) (w : World) (H : MchAt w b n t v c T m) (ha : a < 8) (h0 : 0 ≤ m.sp) (h8 : m.sp < 8) :
    Calls Try.prog 117 #[.pointer (some ⟨b, 0, none⟩), .int .i64 a] w fun e w' => e = .returned (.tuple #[]) ∧ MchAt w' b n t v c T { m with sp := m.sp + 1, st := up m.st m.sp (m.va a) } ∧ Below b w w' := by
  have a0 := H.va a ha
  have hai : (a : Int) < 8 := by omega
  generalize hx : m.va a = x at *
  replace hx : Kp _ := ⟨hx⟩
  go_enter Try.func117, Try.ntmps117
  go_wp2_with fail
  refine (push_any b n t v c T m x w H h0 h8).mono ?_
  rintro e w1 ⟨rfl, H1, hb1⟩
  go_wp2_with fail
  first | go_end0 | refine bodyPost_ret (results_none rfl _ _ _) rfl ?_
  exact ⟨rfl, H1, hb1⟩

set_option maxHeartbeats 800000 in
theorem storeM_any (b : Nat) (n : Int) (t v c : ByteArray) (T : Int → ByteArray) (m : Hnd) (a : Nat) (w : World) (H : MchAt w b n t v c T m) (ha : a < 8) (h0 : 1 ≤ m.sp) (h8 : m.sp ≤ 8) :
    Calls Try.prog 118 #[.pointer (some ⟨b, 0, none⟩), .int .i64 a] w fun e w' => e = .returned (.tuple #[]) ∧ MchAt w' b n t v c T { m with sp := m.sp - 1, va := up m.va a (m.st (m.sp - 1)) } ∧ Below b w w' := by
  have hai : (a : Int) < 8 := by omega
  go_enter Try.func118, Try.ntmps118
  go_wp2_with fail
  refine (pop_any b n t v c T m w H h0 h8).mono ?_
  rintro e w1 ⟨rfl, H1, hb1⟩
  have a0 := H1.va a ha
  have f0 := H1.f (20 + a) (by omega)
  have H2 := H1.setVa ha (m.st (m.sp - 1))
  have hB := hb1.setCell (p := ⟨b, 20 + a, none⟩) (Nat.le_refl _) (.int .i64 (m.st (m.sp - 1)))
  replace H2 : Kp _ := ⟨H2⟩
  replace hB : Kp _ := ⟨hB⟩
  clear H H1 hb1
  go_wp2_with fail
  first | go_end0 | refine bodyPost_ret (results_none rfl _ _ _) rfl ?_
  exact ⟨rfl, H2.out, hB.out⟩

set_option maxHeartbeats 800000 in
theorem readM_any (b : Nat) (n : Int) (t v c : ByteArray) (T : Int → ByteArray) (m : Hnd) (l : Nat) (w : World) (H : MchAt w b n t v c T m) (hl : l < 6) (hT : (T l).size ≤ maxLen) (h0 : 0 ≤ m.sp) (h8 : m.sp < 8) :
    Calls Try.prog 121 #[.pointer (some ⟨b, 0, none⟩), .int .i64 l] w fun e w' => e = .returned (.tuple #[]) ∧ MchAt w' b n t v c T { m with sp := m.sp + 1, st := up m.st m.sp (bv (T l) (m.po l)), po := up m.po l (m.po l + 1) } ∧ Below b w w' := by
  have a0 := H.tp l hl
  have a1 := H.po l hl
  have f1 := H.f (28 + l) (by omega)
  have hli : (l : Int) < 6 := by omega
  have hmx : (T l).size ≤ 9223372036854775807 := by unfold maxLen at hT; omega
  by_cases hs : (T l).size ≤ m.po l
  · have H1 := H.over hs
    have hv : bv (T l) (m.po l) = 0 := bv_over (by omega)
    rw [hv]
    rw [show min (m.po l) (T l).size = (T l).size from by omega] at a1
    generalize hz : T l = tape at *
    replace hz : Kp _ := ⟨hz⟩
    clear H hv hs
    go_enter Try.func121, Try.ntmps121
    go_wp2_with fail
    refine (push_any b n t v c T _ 0 w H1 h0 h8).mono ?_
    rintro e w1 ⟨rfl, H2, hb1⟩
    go_wp2_with fail
    first | go_end0 | refine bodyPost_ret (results_none rfl _ _ _) rfl ?_
    exact ⟨rfl, H2, hb1⟩
  · have hs2 : m.po l < (T l).size := by omega
    have H1 := H.setPo hl (m.po l + 1) (m.po l + 1) (by omega)
    have hv := bv_nat (T l) (m.po l) hs2
    rw [show min (m.po l) (T l).size = m.po l from by omega] at a1
    have hB : Kp (Below b w (w.setCell ⟨b, 28 + l, none⟩ (.int .i64 ((m.po l + 1 : Nat) : Int)))) := ⟨(Below.refl b w).setCell (Nat.le_refl _) _⟩
    obtain ⟨x0, x9⟩ := bv_bd (T l) (m.po l)
    obtain ⟨x, hx⟩ : ∃ x, bv (T l) (m.po l) = x := ⟨_, rfl⟩
    rw [hx] at x0 x9
    rw [hx] at hv ⊢
    obtain ⟨k, hk⟩ : ∃ k, m.po l = k := ⟨_, rfl⟩
    rw [hk] at H1 a1 hs2 hB ⊢
    have hv2 : (((T l)[k].toNat : Nat) : Int) = x := by rw [← hv]; congr 2; simp [hk]
    clear hv
    replace hx : Kp _ := ⟨hx⟩
    replace hk : Kp _ := ⟨hk⟩
    have hc1 : ((k + 1 : Nat) : Int) = (k : Int) + 1 := by omega
    rw [hc1] at H1 hB
    generalize T l = tape at *
    obtain ⟨w2, hw2⟩ : ∃ w2, w.setCell ⟨b, 28 + l, none⟩ (.int .i64 ((k : Int) + 1)) = w2 := ⟨_, rfl⟩
    rw [hw2] at H1 hB
    replace H1 : Kp _ := ⟨H1⟩
    have hki : (k : Int) < (tape.size : Int) := by omega
    clear H hs hT
    go_enter Try.func121, Try.ntmps121
    go_wp2_with fail
    refine (push_any b n t v c T _ x w2 H1.out h0 h8).mono ?_
    rintro e w1 ⟨rfl, H2, hb1⟩
    go_wp2_with fail
    first | go_end0 | refine bodyPost_ret (results_none rfl _ _ _) rfl ?_
    exact ⟨rfl, H2, hB.out.trans hb1⟩

/-- 1 where it holds -/
def oneF (q : Bool) : Int := if q then 1 else 0

theorem oneIf_any (q : Bool) (w : World) : Calls Try.prog 177 #[.bool q] w fun e w' => e = .returned (.int .i64 (oneF q)) ∧ w' = w := by
  cases q
  · go_enter Try.func177, Try.ntmps177
    go_wp2
    go_ret
    exact ⟨rfl, rfl⟩
  · go_enter Try.func177, Try.ntmps177
    go_wp2
    go_ret
    exact ⟨rfl, rfl⟩

theorem mul_bd {a b : Int} (ha : 0 ≤ a ∧ a ≤ 255) (hb : 0 ≤ b ∧ b ≤ 255) : 0 ≤ a * b ∧ a * b ≤ 65025 := by
  refine ⟨Int.mul_nonneg ha.1 hb.1, ?_⟩
  have h1 := Int.mul_le_mul_of_nonneg_right ha.2 hb.1
  have h2 := Int.mul_le_mul_of_nonneg_left hb.2 (show (0 : Int) ≤ 255 by omega)
  omega

set_option maxHeartbeats 800000 in
theorem combine_any (op x y : Int) (w : World) (ho : 3 ≤ op ∧ op ≤ 7) (hx : 0 ≤ x ∧ x ≤ 255) (hy : 0 ≤ y ∧ y ≤ 255) :
    Calls Try.prog 156 #[.int .i64 op, .int .i64 x, .int .i64 y] w fun e w' => e = .returned (.int .i64 (reckon op x y)) ∧ w' = w := by
  obtain ⟨o1, o2⟩ := ho
  have hm := mul_bd hx hy
  obtain ⟨x1, x2⟩ := hx
  obtain ⟨y1, y2⟩ := hy
  obtain ⟨m1, m2⟩ := hm
  have hcs : op = 3 ∨ op = 4 ∨ op = 5 ∨ op = 6 ∨ op = 7 := by omega
  rcases hcs with rfl | rfl | rfl | rfl | rfl
  · have e : reckon 3 x y = (x + y) % 256 := by unfold reckon; simp
    rw [e]
    go_enter Try.func156, Try.ntmps156
    go_wp2
    go_ret
    exact ⟨ret_int (by omega), rfl⟩
  · have e : reckon 4 x y = (x + 256 - y) % 256 := by unfold reckon; simp
    rw [e]
    go_enter Try.func156, Try.ntmps156
    go_wp2
    go_ret
    exact ⟨ret_int (by omega), rfl⟩
  · have e : reckon 5 x y = x * y % 256 := by unfold reckon; simp
    rw [e]
    go_enter Try.func156, Try.ntmps156
    go_wp2
    go_ret
    exact ⟨ret_int (by omega), rfl⟩
  · have e : reckon 6 x y = oneF (decide (x < y)) := by unfold reckon oneF; simp
    rw [e]
    go_enter Try.func156, Try.ntmps156
    go_wp2_with fail
    refine (oneIf_any _ _).mono ?_
    rintro e w1 ⟨rfl, rfl⟩
    go_wp2
    go_ret
    exact ⟨rfl, rfl⟩
  · have e : reckon 7 x y = oneF (x == y) := by unfold reckon oneF; simp
    rw [e]
    go_enter Try.func156, Try.ntmps156
    go_wp2_with fail
    refine (oneIf_any _ _).mono ?_
    rintro e w1 ⟨rfl, rfl⟩
    go_wp2
    go_ret
    exact ⟨rfl, rfl⟩
end Go.Proofs.Ytcnbifdlkalimaa

/-
  The walks of the package machine, third part: write, reckon, one step; for every hand that keeps its bounds.
-/
namespace Go.Proofs.Ytcnbifdlkalimaa
open Go.RowKit
set_option linter.unusedVariables false
set_option maxRecDepth 100000

theorem info_byte : (Try.prog.info? 5).map (fun i => (i.zero, i.size, i.bytes)) = some (some (.int .u8 0), 1, 1) := by kernel_rfl

theorem row_form {w : World} {B : Nat} {e : TypeId} {v : Value} {k : Nat} {xs : List Value} (h : w.ownsRow B e 1 v (k + 1) xs) : ∃ g cap, v = .slice (some ⟨g, 0, none⟩) (k + 1) cap := by
  rcases h.2 with ⟨_, hn⟩ | ⟨g, cap, cur, rfl, _⟩
  · omega
  · exact ⟨g, cap, rfl⟩

theorem wrap_byte {x : Int} (h0 : 0 ≤ x) (h1 : x ≤ 255) : IntKind.u8.wrap x = x := by
  unfold IntKind.wrap
  simp [IntKind.signed, IntKind.bits]
  omega

set_option maxHeartbeats 1600000 in
theorem writeM_any (b : Nat) (n : Int) (t v c : ByteArray) (T : Int → ByteArray) (m : Hnd) (l : Nat) (w : World) (H : MchAt w b n t v c T m) (hl : l < 6) (h0 : 1 ≤ m.sp) (h8 : m.sp ≤ 8) (hx : 0 ≤ m.st (m.sp - 1) ∧ m.st (m.sp - 1) ≤ 255) (hlen : (m.lo l).length ≤ 20000) :
    Calls Try.prog 122 #[.pointer (some ⟨b, 0, none⟩), .int .i64 l] w fun e w' => e = .returned (.tuple #[]) ∧ MchAt w' b n t v c T { m with sp := m.sp - 1, lo := up m.lo l (m.lo l ++ [m.st (m.sp - 1)]) } ∧ Below b w w' := by
  have hli : (l : Int) < 6 := by omega
  obtain ⟨x, hxx⟩ : ∃ x, m.st (m.sp - 1) = x := ⟨_, rfl⟩
  rw [hxx] at hx
  obtain ⟨x0, x9⟩ := hx
  obtain ⟨i0, hi0, hz0, hz1, hz2⟩ := info_parts info_byte
  have hw8 : IntKind.u8.wrap x = x := wrap_byte x0 x9
  go_enter Try.func122, Try.ntmps122
  go_wp2_with fail
  refine (pop_any b n t v c T m w H h0 h8).mono ?_
  rintro e w1 ⟨rfl, H1, hb1⟩
  rw [hxx]
  obtain ⟨S, hS⟩ := H1.lg
  have a0 := hS.c l hl
  have f0 := H1.f (34 + l) (by omega)
  have hlt := H1.lt
  have hrow : Kp (w1.ownsRow (b + 1) 5 1 (S l) (m.lo l).length ((m.lo l).map (Value.int .u8))) := ⟨hS.o l hl⟩
  have hne : some b ≠ (S l).ownBlock := fun e => by have := (hS.o l hl).lt _ e.symm; omega
  replace hne : Kp _ := ⟨hne⟩
  have bel1 : Below w1.heap.size w1 (w1.alloc (.cells #[.int .u8 x] 5)).drew := ((Below.refl _ _).alloc (Nat.le_refl _) _).drew
  replace H1 : Kp _ := ⟨H1⟩
  replace hS : Kp _ := ⟨hS⟩
  clear H
  go_wp2_with fail
  go_region_law (refine step_append_at rfl (.tmp 20) (.tmp 23) 58 rfl (b + 1) 5 i0 (.int .u8 0) 1 Try.underlying58 hi0 hz0 hz1 hz2 rfl (S l) (m.lo l).length ((m.lo l).map (Value.int .u8)) (by simp [Act.eval]) (row_step hrow.out bel1) ⟨w1.heap.size, 0, none⟩ (.int .u8 x) (by simp [Act.eval]) (by simp [Addr.add]) rfl (by unfold maxLen; omega) (by omega) (by simp; omega) ?_; intro v' w3 hown hgrow hat; obtain ⟨g, cap, rfl⟩ := row_form hown; have a1 : w3.cell? ⟨b, 34 + l, none⟩ = some (S l) := (by rw [World.cell?_of_block (w := (w1.alloc (.cells #[.int .u8 x] 5)).drew) (hgrow.block b (by simp; omega) hne.out)]; exact (bel1.cell (p := ⟨b, 34 + l, none⟩) hlt).trans a0); have f1 : w3.frozen? ⟨b, 34 + l, none⟩ = false := (by rw [World.frozen?_of_block (w := (w1.alloc (.cells #[.int .u8 x] 5)).drew) (hgrow.block b (by simp; omega) hne.out)]; exact (bel1.frozen (p := ⟨b, 34 + l, none⟩) hlt).trans f0))
  all_goals
    go_wp2
    first | go_end0 | refine bodyPost_ret (results_none rfl _ _ _) rfl ?_
    have hR := MchAt.told (x := x) H1.out hS.out hl bel1 hgrow hown hat
    rw [hxx]
    exact ⟨rfl, hR.1, hb1.trans hR.2⟩

set_option maxHeartbeats 800000 in
theorem reckonM_any (b : Nat) (n : Int) (t v c : ByteArray) (T : Int → ByteArray) (m : Hnd) (op : Int) (w : World) (H : MchAt w b n t v c T m) (ho : 3 ≤ op ∧ op ≤ 7) (h0 : 2 ≤ m.sp) (h8 : m.sp ≤ 8) (V : Vals m) :
    Calls Try.prog 119 #[.pointer (some ⟨b, 0, none⟩), .int .i64 op] w fun e w' => e = .returned (.tuple #[]) ∧ MchAt w' b n t v c T { m with sp := m.sp - 1, st := up m.st (m.sp - 2) (reckon op (m.st (m.sp - 2)) (m.st (m.sp - 1))) } ∧ Below b w w' := by
  go_enter Try.func119, Try.ntmps119
  go_wp2_with fail
  refine (pop_any b n t v c T m w H (by omega) h8).mono ?_
  rintro e w1 ⟨rfl, H1, hb1⟩
  go_wp2_with fail
  refine (pop_any b n t v c T _ w1 H1 (by show 1 ≤ m.sp - 1; omega) (by show m.sp - 1 ≤ 8; omega)).mono ?_
  rintro e w2 ⟨rfl, H2, hb2⟩
  have e2 : m.sp - 1 - 1 = m.sp - 2 := by omega
  dsimp only at H2
  rw [e2] at H2
  dsimp only
  rw [e2]
  have v1 := V.st (m.sp - 1)
  have v2 := V.st (m.sp - 2)
  generalize hx : m.st (m.sp - 2) = x at *
  generalize hy : m.st (m.sp - 1) = y at *
  replace hx : Kp _ := ⟨hx⟩
  replace hy : Kp _ := ⟨hy⟩
  go_wp2_with fail
  refine (combine_any op x y w2 ho v2 v1).mono ?_
  rintro e w3 ⟨rfl, rfl⟩
  generalize hz : reckon op x y = z at *
  replace hz : Kp _ := ⟨hz⟩
  go_wp2_with fail
  refine (push_any b n t v c T _ z w3 H2 (by show 0 ≤ m.sp - 2; omega) (by show m.sp - 2 < 8; omega)).mono ?_
  rintro e w4 ⟨rfl, H3, hb3⟩
  dsimp only at H3
  rw [show m.sp - 2 + 1 = m.sp - 1 from by omega] at H3
  go_wp2_with fail
  first | go_end0 | refine bodyPost_ret (results_none rfl _ _ _) rfl ?_
  rw [hx.out, hy.out, hz.out]
  exact ⟨rfl, H3, (hb1.trans hb2).trans hb3⟩
end Go.Proofs.Ytcnbifdlkalimaa

/-
  The walks of the package machine, fourth part: one step; for every hand at a place of a file that is let through.
-/
namespace Go.Proofs.Ytcnbifdlkalimaa
open Go.RowKit
set_option linter.unusedVariables false
set_option maxRecDepth 100000

/-- what a step asks of the file and of the tapes -/
structure RunF (c v : ByteArray) (n : Int) (T : Int → ByteArray) : Prop where
  hc : c.size ≤ maxLen
  hK : half c ≤ 200
  hv : v.size ≤ 8
  hn : n ≤ 6
  ht : ∀ l : Nat, l < 6 → (T l).size ≤ maxLen

/-- the heights that the operations ask -/
theorem sp_bd {c v t : ByteArray} {T : Int → ByteArray} {n : Int} {h : Nat → Int} {m : Hnd} (P : Through c v t n h) (S : Sound c h m) (hlt : m.pl < half c) : 0 ≤ m.sp ∧ m.sp ≤ 8 ∧ takesAt c m.pl ≤ m.sp ∧ m.sp - takesAt c m.pl + givesAt c m.pl ≤ 8 := by
  have e : ((m.pl.toNat : Nat) : Int) = m.pl := Int.toNat_of_nonneg S.r0
  have a := P.ht.rng m.pl.toNat (by rw [e]; exact S.r1) (by rw [e]; exact S.live)
  have b := P.ht.pops m.pl.toNat (by rw [e]; exact hlt) (by rw [e]; exact S.live)
  rw [← S.sp] at a b
  rw [e] at b
  have S2 := (step_sound (T := T) P S hlt).1
  have e2 : (((stepM c T m).pl.toNat : Nat) : Int) = (stepM c T m).pl := Int.toNat_of_nonneg S2.r0
  have d := P.ht.rng (stepM c T m).pl.toNat (by rw [e2]; exact S2.r1) (by rw [e2]; exact S2.live)
  rw [← S2.sp, step_sp (P.ops m.pl S.r0 hlt)] at d
  omega

theorem fin_ok {w3 : World} {b : Nat} {n : Int} {t v c : ByteArray} {T : Int → ByteArray} {M m : Hnd} {e1 : Int} (H3 : MchAt w3 b n t v c T M) (e : stepM c T m = { M with pl := e1 }) : MchAt (w3.setCell ⟨b, 10, none⟩ (.int .i64 e1)) b n t v c T (stepM c T m) := by
  rw [e]
  exact H3.setPl e1

set_option maxHeartbeats 1600000 in
theorem stepM_any (b : Nat) (n : Int) (t v c : ByteArray) (T : Int → ByteArray) (h : Nat → Int) (m : Hnd) (w : World) (H : MchAt w b n t v c T m) (F : RunF c v n T) (P : Kp (Through c v t n h)) (S : Kp (Sound c h m)) (V : Kp (Vals m)) (hlt : m.pl < half c) (hlen : Kp (∀ l, (m.lo l).length ≤ 20000)) :
    Calls Try.prog 78 #[.pointer (some ⟨b, 0, none⟩)] w fun e w' => e = .returned (.tuple #[]) ∧ MchAt w' b n t v c T (stepM c T m) ∧ Below b w w' := by
  have hc := F.hc
  have hK := F.hK
  have hv8 := F.hv
  have hn6 := F.hn
  have hp0 := S.out.r0
  have hsp := sp_bd (T := T) P.out S.out hlt
  have h11 := P.out.ops m.pl hp0 hlt
  obtain ⟨x0, x9⟩ := bv_bd c (2 * m.pl)
  obtain ⟨y0, y9⟩ := bv_bd c (2 * m.pl + 1)
  obtain ⟨a, ha⟩ : ∃ a : Nat, bv c (2 * m.pl + 1) = a := ⟨(bv c (2 * m.pl + 1)).toNat, by omega⟩
  obtain ⟨x, hx⟩ : ∃ x, bv c (2 * m.pl) = x := ⟨_, rfl⟩
  obtain ⟨e1, he1⟩ : ∃ e1, nx1 c m.pl = e1 := ⟨_, rfl⟩
  obtain ⟨e2, he2⟩ : ∃ e2, nx2 c m.pl = e2 := ⟨_, rfl⟩
  have htk : takesAt c m.pl = takesF x := by unfold takesAt; rw [hx]
  have hgv : givesAt c m.pl = givesF x := by unfold givesAt; rw [hx]
  rw [htk, hgv] at hsp
  have hvr : x = 1 ∨ x = 2 → a < 8 := fun k => by have := (P.out.vr m.pl hp0 hlt (by rw [hx]; exact k)).1; omega
  have hlv : x = 10 ∨ x = 11 → a < 6 := fun k => by have := P.out.lv m.pl hp0 hlt (by rw [hx]; exact k); unfold Lv at this; omega
  have n1 : e1 = if x = 8 then (a : Int) else m.pl + 1 := by rw [← he1]; unfold nx1; rw [if_neg (by omega), hx, ha]
  have n2 : e2 = if x = 8 ∨ x = 9 then (a : Int) else m.pl + 1 := by rw [← he2]; unfold nx2; rw [if_neg (by omega), hx, ha]
  have hI := fun w1 => instr_any n m.pl t v c w1 hc hp0 hlt
  have hJ := fun w1 => behind_any n m.pl t v c w1 hc hK hp0 (by omega)
  rw [hx, ha] at hI
  rw [he1, he2] at hJ
  rw [hx] at h11 x0 x9
  have c0 := H.c0
  have c1 := H.c1
  have c2 := H.c2
  have c3 := H.c3
  have c10 := H.pl
  have hl0 := H.lt
  obtain ⟨pl, hpl⟩ : ∃ pl, m.pl = pl := ⟨_, rfl⟩
  rw [hpl] at hI hJ c10
  replace hpl : Kp _ := ⟨hpl⟩
  replace hI : Kp _ := ⟨hI⟩
  replace hJ : Kp _ := ⟨hJ⟩
  have REST : Kp ((takesF x ≤ m.sp ∧ 0 ≤ m.sp ∧ m.sp ≤ 8 ∧ m.sp - takesF x + givesF x ≤ 8) ∧ (x = 1 ∨ x = 2 → a < 8) ∧ (x = 10 ∨ x = 11 → a < 6) ∧ (e1 = if x = 8 then (a : Int) else m.pl + 1) ∧ (e2 = if x = 8 ∨ x = 9 then (a : Int) else m.pl + 1) ∧ bv c (2 * m.pl) = x ∧ bv c (2 * m.pl + 1) = a ∧ 0 ≤ x ∧ x ≤ 11) := ⟨⟨by omega, by omega, by omega, by omega⟩, hvr, hlv, n1, n2, hx, ha, x0, h11⟩
  clear n1 n2 htk hgv y0 y9 x0 x9 h11 hvr hlv hx ha hsp he1 he2 hc hK hv8 hn6 hp0 hlt
  replace F : Kp _ := ⟨F⟩
  have H' : Kp _ := ⟨H⟩
  clear H
  go_enter Try.func78, Try.ntmps78
  go_wp2_with fail
  go_region_held (fun w' => w'.cell? ⟨b, 0, none⟩ = some (.int .i64 n) ∧ w'.cell? ⟨b, 1, none⟩ = some (.string t) ∧ w'.cell? ⟨b, 2, none⟩ = some (.string v) ∧ w'.cell? ⟨b, 3, none⟩ = some (.string c) ∧ w'.cell? ⟨b, 10, none⟩ = some (.int .i64 pl)) (go_keep) ((go_at_call 100; refine (hI.out _).mono ?_; rintro e w1 ⟨rfl, hb1⟩; have hb1' : Below w.heap.size w w1 := (Below.refl _ _).drew.trans hb1; have H1 := H'.out.step hb1'; have a0 := H1.c0; have a1 := H1.c1; have a2 := H1.c2; have a3 := H1.c3; have a10 := H1.pl; rw [hpl.out] at a10))
  all_goals
    clear c0 c1 c2 c3 c10 hI hb1
    go_wp2_with fail
    go_region_held (fun w' => w'.cell? ⟨b, 0, none⟩ = some (.int .i64 n) ∧ w'.cell? ⟨b, 1, none⟩ = some (.string t) ∧ w'.cell? ⟨b, 2, none⟩ = some (.string v) ∧ w'.cell? ⟨b, 3, none⟩ = some (.string c) ∧ w'.cell? ⟨b, 10, none⟩ = some (.int .i64 pl)) (go_keep) ((go_at_call 115; refine (hJ.out _).mono ?_; rintro e w2 ⟨rfl, hb2⟩; have hb2' : Below w1.heap.size w1 w2 := (Below.refl _ _).drew.trans hb2; have H2 := H1.step hb2'; have d0 := H2.c0; have d1 := H2.c1; have d2 := H2.c2; have d3 := H2.c3; have d10 := H2.pl; rw [hpl.out] at d10))
    all_goals
      clear a0 a1 a2 a3 a10 d0 d1 d2 d3 d10 hJ hb2
      have hB : Below b w w2 := (hb1'.mono (Nat.le_of_lt hl0)).trans (hb2'.mono (Nat.le_trans (Nat.le_of_lt hl0) hb1'.size))
      clear hb1' hb2' H1 H'
      obtain ⟨⟨s1, s2, s3, s4⟩, hvr, hlv, n1, n2, hx, ha, x0, h11⟩ := REST.out
      have hcs : x = 0 ∨ x = 1 ∨ x = 2 ∨ x = 3 ∨ x = 4 ∨ x = 5 ∨ x = 6 ∨ x = 7 ∨ x = 8 ∨ x = 9 ∨ x = 10 ∨ x = 11 := by omega
      replace hvr : Kp _ := ⟨hvr⟩
      replace hlv : Kp _ := ⟨hlv⟩
      rcases hcs with rfl | rfl | rfl | rfl | rfl | rfl | rfl | rfl | rfl | rfl | rfl | rfl
      · rw [if_neg (by omega)] at n1
        replace n1 : Kp _ := ⟨n1⟩
        replace n2 : Kp _ := ⟨n2⟩
        have s5 := s4
        simp [takesF, givesF] at s5 s1
        go_wp2_with fail
        refine (push_any b n t v c T m (a : Int) w2 H2 s2 (by omega)).mono ?_
        rintro e w3 ⟨rfl, H3, hb3⟩
        have p10 := H3.pl
        have f10 := H3.f 10 (by omega)
        have hB4 : Kp (Below b w (w3.setCell ⟨b, 10, none⟩ (.int .i64 e1))) := ⟨(hB.trans hb3).setCell (Nat.le_refl _) _⟩
        have H4 : Kp (MchAt (w3.setCell ⟨b, 10, none⟩ (.int .i64 e1)) b n t v c T (stepM c T m)) := ⟨fin_ok H3 (by rw [step_0 hx, ha]; rw [n1.out])⟩
        clear hB hb3 H3 H2 n1 n2 hx ha
        go_wp2_with fail
        first | go_end0 | refine bodyPost_ret (results_none rfl _ _ _) rfl ?_
        exact ⟨rfl, H4.out, hB4.out⟩
      · rw [if_neg (by omega)] at n1
        have ha8 : a < 8 := hvr.out (.inl rfl)
        replace n1 : Kp _ := ⟨n1⟩
        replace n2 : Kp _ := ⟨n2⟩
        have s5 := s4
        simp [takesF, givesF] at s5 s1
        go_wp2_with fail
        refine (loadM_any b n t v c T m a w2 H2 ha8 s2 (by omega)).mono ?_
        rintro e w3 ⟨rfl, H3, hb3⟩
        have p10 := H3.pl
        have f10 := H3.f 10 (by omega)
        have hB4 : Kp (Below b w (w3.setCell ⟨b, 10, none⟩ (.int .i64 e1))) := ⟨(hB.trans hb3).setCell (Nat.le_refl _) _⟩
        have H4 : Kp (MchAt (w3.setCell ⟨b, 10, none⟩ (.int .i64 e1)) b n t v c T (stepM c T m)) := ⟨fin_ok H3 (by rw [step_1 hx, ha]; rw [n1.out])⟩
        clear hB hb3 H3 H2 n1 n2 hx ha
        go_wp2_with fail
        first | go_end0 | refine bodyPost_ret (results_none rfl _ _ _) rfl ?_
        exact ⟨rfl, H4.out, hB4.out⟩
      · rw [if_neg (by omega)] at n1
        have ha8 : a < 8 := hvr.out (.inr rfl)
        replace n1 : Kp _ := ⟨n1⟩
        replace n2 : Kp _ := ⟨n2⟩
        have s5 := s4
        simp [takesF, givesF] at s5 s1
        go_wp2_with fail
        refine (storeM_any b n t v c T m a w2 H2 ha8 s1 s3).mono ?_
        rintro e w3 ⟨rfl, H3, hb3⟩
        have p10 := H3.pl
        have f10 := H3.f 10 (by omega)
        have hB4 : Kp (Below b w (w3.setCell ⟨b, 10, none⟩ (.int .i64 e1))) := ⟨(hB.trans hb3).setCell (Nat.le_refl _) _⟩
        have H4 : Kp (MchAt (w3.setCell ⟨b, 10, none⟩ (.int .i64 e1)) b n t v c T (stepM c T m)) := ⟨fin_ok H3 (by rw [step_2 hx, ha]; rw [n1.out])⟩
        clear hB hb3 H3 H2 n1 n2 hx ha
        go_wp2_with fail
        first | go_end0 | refine bodyPost_ret (results_none rfl _ _ _) rfl ?_
        exact ⟨rfl, H4.out, hB4.out⟩
      · rw [if_neg (by omega)] at n1
        replace n1 : Kp _ := ⟨n1⟩
        replace n2 : Kp _ := ⟨n2⟩
        have s5 := s4
        simp [takesF, givesF] at s5 s1
        go_wp2_with fail
        refine (reckonM_any b n t v c T m 3 w2 H2 (by omega) (by omega) s3 V.out).mono ?_
        rintro e w3 ⟨rfl, H3, hb3⟩
        have p10 := H3.pl
        have f10 := H3.f 10 (by omega)
        have hB4 : Kp (Below b w (w3.setCell ⟨b, 10, none⟩ (.int .i64 e1))) := ⟨(hB.trans hb3).setCell (Nat.le_refl _) _⟩
        have H4 : Kp (MchAt (w3.setCell ⟨b, 10, none⟩ (.int .i64 e1)) b n t v c T (stepM c T m)) := ⟨fin_ok H3 (by rw [step_two (by rw [hx]; omega), hx]; rw [n1.out])⟩
        clear hB hb3 H3 H2 n1 n2 hx ha
        go_wp2_with fail
        first | go_end0 | refine bodyPost_ret (results_none rfl _ _ _) rfl ?_
        exact ⟨rfl, H4.out, hB4.out⟩
      · rw [if_neg (by omega)] at n1
        replace n1 : Kp _ := ⟨n1⟩
        replace n2 : Kp _ := ⟨n2⟩
        have s5 := s4
        simp [takesF, givesF] at s5 s1
        go_wp2_with fail
        refine (reckonM_any b n t v c T m 4 w2 H2 (by omega) (by omega) s3 V.out).mono ?_
        rintro e w3 ⟨rfl, H3, hb3⟩
        have p10 := H3.pl
        have f10 := H3.f 10 (by omega)
        have hB4 : Kp (Below b w (w3.setCell ⟨b, 10, none⟩ (.int .i64 e1))) := ⟨(hB.trans hb3).setCell (Nat.le_refl _) _⟩
        have H4 : Kp (MchAt (w3.setCell ⟨b, 10, none⟩ (.int .i64 e1)) b n t v c T (stepM c T m)) := ⟨fin_ok H3 (by rw [step_two (by rw [hx]; omega), hx]; rw [n1.out])⟩
        clear hB hb3 H3 H2 n1 n2 hx ha
        go_wp2_with fail
        first | go_end0 | refine bodyPost_ret (results_none rfl _ _ _) rfl ?_
        exact ⟨rfl, H4.out, hB4.out⟩
      · rw [if_neg (by omega)] at n1
        replace n1 : Kp _ := ⟨n1⟩
        replace n2 : Kp _ := ⟨n2⟩
        have s5 := s4
        simp [takesF, givesF] at s5 s1
        go_wp2_with fail
        refine (reckonM_any b n t v c T m 5 w2 H2 (by omega) (by omega) s3 V.out).mono ?_
        rintro e w3 ⟨rfl, H3, hb3⟩
        have p10 := H3.pl
        have f10 := H3.f 10 (by omega)
        have hB4 : Kp (Below b w (w3.setCell ⟨b, 10, none⟩ (.int .i64 e1))) := ⟨(hB.trans hb3).setCell (Nat.le_refl _) _⟩
        have H4 : Kp (MchAt (w3.setCell ⟨b, 10, none⟩ (.int .i64 e1)) b n t v c T (stepM c T m)) := ⟨fin_ok H3 (by rw [step_two (by rw [hx]; omega), hx]; rw [n1.out])⟩
        clear hB hb3 H3 H2 n1 n2 hx ha
        go_wp2_with fail
        first | go_end0 | refine bodyPost_ret (results_none rfl _ _ _) rfl ?_
        exact ⟨rfl, H4.out, hB4.out⟩
      · rw [if_neg (by omega)] at n1
        replace n1 : Kp _ := ⟨n1⟩
        replace n2 : Kp _ := ⟨n2⟩
        have s5 := s4
        simp [takesF, givesF] at s5 s1
        go_wp2_with fail
        refine (reckonM_any b n t v c T m 6 w2 H2 (by omega) (by omega) s3 V.out).mono ?_
        rintro e w3 ⟨rfl, H3, hb3⟩
        have p10 := H3.pl
        have f10 := H3.f 10 (by omega)
        have hB4 : Kp (Below b w (w3.setCell ⟨b, 10, none⟩ (.int .i64 e1))) := ⟨(hB.trans hb3).setCell (Nat.le_refl _) _⟩
        have H4 : Kp (MchAt (w3.setCell ⟨b, 10, none⟩ (.int .i64 e1)) b n t v c T (stepM c T m)) := ⟨fin_ok H3 (by rw [step_two (by rw [hx]; omega), hx]; rw [n1.out])⟩
        clear hB hb3 H3 H2 n1 n2 hx ha
        go_wp2_with fail
        first | go_end0 | refine bodyPost_ret (results_none rfl _ _ _) rfl ?_
        exact ⟨rfl, H4.out, hB4.out⟩
      · rw [if_neg (by omega)] at n1
        replace n1 : Kp _ := ⟨n1⟩
        replace n2 : Kp _ := ⟨n2⟩
        have s5 := s4
        simp [takesF, givesF] at s5 s1
        go_wp2_with fail
        refine (reckonM_any b n t v c T m 7 w2 H2 (by omega) (by omega) s3 V.out).mono ?_
        rintro e w3 ⟨rfl, H3, hb3⟩
        have p10 := H3.pl
        have f10 := H3.f 10 (by omega)
        have hB4 : Kp (Below b w (w3.setCell ⟨b, 10, none⟩ (.int .i64 e1))) := ⟨(hB.trans hb3).setCell (Nat.le_refl _) _⟩
        have H4 : Kp (MchAt (w3.setCell ⟨b, 10, none⟩ (.int .i64 e1)) b n t v c T (stepM c T m)) := ⟨fin_ok H3 (by rw [step_two (by rw [hx]; omega), hx]; rw [n1.out])⟩
        clear hB hb3 H3 H2 n1 n2 hx ha
        go_wp2_with fail
        first | go_end0 | refine bodyPost_ret (results_none rfl _ _ _) rfl ?_
        exact ⟨rfl, H4.out, hB4.out⟩
      · rw [if_pos rfl] at n1
        replace n1 : Kp _ := ⟨n1⟩
        replace n2 : Kp _ := ⟨n2⟩
        have p10 := H2.pl
        have f10 := H2.f 10 (by omega)
        have hB4 : Kp (Below b w (w2.setCell ⟨b, 10, none⟩ (.int .i64 e1))) := ⟨hB.setCell (Nat.le_refl _) _⟩
        have H4 : Kp (MchAt (w2.setCell ⟨b, 10, none⟩ (.int .i64 e1)) b n t v c T (stepM c T m)) := ⟨fin_ok H2 (by rw [step_8 hx, ha]; rw [n1.out])⟩
        clear hB H2 n1 n2 hx ha
        go_wp2_with fail
        first | go_end0 | refine bodyPost_ret (results_none rfl _ _ _) rfl ?_
        exact ⟨rfl, H4.out, hB4.out⟩
      · rw [if_neg (by omega)] at n1
        rw [if_pos (by omega)] at n2
        replace n1 : Kp _ := ⟨n1⟩
        replace n2 : Kp _ := ⟨n2⟩
        simp [takesF] at s1
        obtain ⟨z, hz⟩ : ∃ z, m.st (m.sp - 1) = z := ⟨_, rfl⟩
        have hP := pop_any b n t v c T m w2 H2 s1 s3
        rw [hz] at hP
        by_cases hz0 : z = 0
        · subst hz0
          replace hP : Kp _ := ⟨hP⟩
          go_wp2_with fail
          refine hP.out.mono ?_
          rintro e w3 ⟨rfl, H3, hb3⟩
          have p10 := H3.pl
          have f10 := H3.f 10 (by omega)
          have hB4 : Kp (Below b w (w3.setCell ⟨b, 10, none⟩ (.int .i64 e2))) := ⟨(hB.trans hb3).setCell (Nat.le_refl _) _⟩
          have H4 : Kp (MchAt (w3.setCell ⟨b, 10, none⟩ (.int .i64 e2)) b n t v c T (stepM c T m)) := ⟨fin_ok H3 (by rw [step_9 hx, ha, if_pos hz]; rw [n2.out])⟩
          clear hB hb3 H3 H2 n1 n2 hx ha hP
          go_wp2_with fail
          first | go_end0 | refine bodyPost_ret (results_none rfl _ _ _) rfl ?_
          exact ⟨rfl, H4.out, hB4.out⟩
        · replace hP : Kp _ := ⟨hP⟩
          have hzn : (z == 0) = false := beq_eq_false_iff_ne.2 hz0
          go_wp2_with fail
          refine hP.out.mono ?_
          rintro e w3 ⟨rfl, H3, hb3⟩
          have p10 := H3.pl
          have f10 := H3.f 10 (by omega)
          have hB4 : Kp (Below b w (w3.setCell ⟨b, 10, none⟩ (.int .i64 e1))) := ⟨(hB.trans hb3).setCell (Nat.le_refl _) _⟩
          have H4 : Kp (MchAt (w3.setCell ⟨b, 10, none⟩ (.int .i64 e1)) b n t v c T (stepM c T m)) := ⟨fin_ok H3 (by rw [step_9 hx, ha, if_neg (by rw [hz]; exact hz0)]; rw [n1.out])⟩
          clear hB hb3 H3 H2 n1 n2 hx ha hP
          go_wp2_with fail
          first | go_end0 | refine bodyPost_ret (results_none rfl _ _ _) rfl ?_
          exact ⟨rfl, H4.out, hB4.out⟩
      · rw [if_neg (by omega)] at n1
        have ha8 : a < 6 := hlv.out (.inl rfl)
        replace n1 : Kp _ := ⟨n1⟩
        replace n2 : Kp _ := ⟨n2⟩
        have s5 := s4
        simp [takesF, givesF] at s5 s1
        go_wp2_with fail
        refine (readM_any b n t v c T m a w2 H2 ha8 (F.out.ht a ha8) s2 (by omega)).mono ?_
        rintro e w3 ⟨rfl, H3, hb3⟩
        have p10 := H3.pl
        have f10 := H3.f 10 (by omega)
        have hB4 : Kp (Below b w (w3.setCell ⟨b, 10, none⟩ (.int .i64 e1))) := ⟨(hB.trans hb3).setCell (Nat.le_refl _) _⟩
        have H4 : Kp (MchAt (w3.setCell ⟨b, 10, none⟩ (.int .i64 e1)) b n t v c T (stepM c T m)) := ⟨fin_ok H3 (by rw [step_10 hx, ha]; rw [n1.out])⟩
        clear hB hb3 H3 H2 n1 n2 hx ha
        go_wp2_with fail
        first | go_end0 | refine bodyPost_ret (results_none rfl _ _ _) rfl ?_
        exact ⟨rfl, H4.out, hB4.out⟩
      · rw [if_neg (by omega)] at n1
        have ha8 : a < 6 := hlv.out (.inr rfl)
        replace n1 : Kp _ := ⟨n1⟩
        replace n2 : Kp _ := ⟨n2⟩
        have s5 := s4
        simp [takesF, givesF] at s5 s1
        go_wp2_with fail
        refine (writeM_any b n t v c T m a w2 H2 ha8 s1 s3 (V.out.st _) (hlen.out _)).mono ?_
        rintro e w3 ⟨rfl, H3, hb3⟩
        have p10 := H3.pl
        have f10 := H3.f 10 (by omega)
        have hB4 : Kp (Below b w (w3.setCell ⟨b, 10, none⟩ (.int .i64 e1))) := ⟨(hB.trans hb3).setCell (Nat.le_refl _) _⟩
        have H4 : Kp (MchAt (w3.setCell ⟨b, 10, none⟩ (.int .i64 e1)) b n t v c T (stepM c T m)) := ⟨fin_ok H3 (by rw [step_11 hx, ha]; rw [n1.out])⟩
        clear hB hb3 H3 H2 n1 n2 hx ha
        go_wp2_with fail
        first | go_end0 | refine bodyPost_ret (results_none rfl _ _ _) rfl ?_
        exact ⟨rfl, H4.out, hB4.out⟩
end Go.Proofs.Ytcnbifdlkalimaa

/-
  The walks of the package machine, fifth part: the logs and the variables as texts; for every hand.
-/
namespace Go.Proofs.Ytcnbifdlkalimaa
open Go.RowKit
set_option linter.unusedVariables false
set_option maxRecDepth 100000

/-- block g holds six texts -/
structure TapAt (w : World) (g : Nat) (f : Nat → ByteArray) : Prop where
  lt : g < w.heap.size
  c : ∀ j : Nat, j < 6 → w.cell? ⟨g, j, none⟩ = some (.string (f j))
  f : ∀ j : Nat, j < 6 → w.frozen? ⟨g, j, none⟩ = false

theorem TapAt.step {w w1 : World} {g : Nat} {f : Nat → ByteArray} (H : TapAt w g f) (hb : Below w.heap.size w w1) : TapAt w1 g f :=
  ⟨Nat.lt_of_lt_of_le H.lt hb.size, fun j hj => by rw [hb.cell (p := ⟨g, j, none⟩) H.lt]; exact H.c j hj, fun j hj => by rw [hb.frozen (p := ⟨g, j, none⟩) H.lt]; exact H.f j hj⟩

theorem TapAt.set {w : World} {g k : Nat} {f : Nat → ByteArray} (H : TapAt w g f) (hk : k < 6) (x : ByteArray) : TapAt (w.setCell ⟨g, k, none⟩ (.string x)) g (fun j => if j = k then x else f j) := by
  refine ⟨by simpa using H.lt, fun j hj => ?_, fun j hj => by rw [World.frozen?_setCell]; exact H.f j hj⟩
  by_cases e : j = k
  · subst e
    rw [World.cell?_setCell_same _ _ _ (H.c j hj), if_pos rfl]
  · rw [cell_off _ _ _ _ _ (by omega), if_neg e]; exact H.c j hj

theorem TapAt.far {w : World} {g b k : Nat} {x : Value} {f : Nat → ByteArray} (H : TapAt w g f) (hne : b ≠ g) : TapAt (w.setCell ⟨b, k, none⟩ x) g f :=
  ⟨by simpa using H.lt, fun j hj => by rw [World.cell?_setCell_far _ _ _ _ hne]; exact H.c j hj, fun j hj => by rw [World.frozen?_setCell]; exact H.f j hj⟩

theorem TapAt.new (w : World) (t : TypeId) (x0 x1 x2 x3 x4 x5 : ByteArray) {f : Nat → ByteArray} (h : f 0 = x0 ∧ f 1 = x1 ∧ f 2 = x2 ∧ f 3 = x3 ∧ f 4 = x4 ∧ f 5 = x5) : TapAt (w.alloc (.cells #[.string x0, .string x1, .string x2, .string x3, .string x4, .string x5] t)) w.heap.size f := by
  obtain ⟨rfl, rfl, rfl, rfl, rfl, rfl⟩ := h
  refine ⟨by simp, ?_, ?_⟩ <;>
  · intro j hj
    match j with
    | 0 => simp [go_sem]
    | 1 => simp [go_sem]
    | 2 => simp [go_sem]
    | 3 => simp [go_sem]
    | 4 => simp [go_sem]
    | 5 => simp [go_sem]
    | j + 6 => omega

def logF (lo : Int → List Int) (k : Nat) : Nat → ByteArray := fun j => if j < k then bs (lo j) else { data := #[] }

set_option maxHeartbeats 1600000 in
theorem allLogs_any (b : Nat) (n : Int) (t v c : ByteArray) (T : Int → ByteArray) (m : Hnd) (w : World) (H : MchAt w b n t v c T m) :
    Calls Try.prog 79 #[.pointer (some ⟨b, 0, none⟩)] w fun e w' => e = .returned (tapV fun l => bs (m.lo l)) ∧ Below w.heap.size w w' := by
  have hlt := H.lt
  have R0 := TapAt.new w 49 { data := #[] } { data := #[] } { data := #[] } { data := #[] } { data := #[] } { data := #[] } (f := fun _ => { data := #[] }) ⟨rfl, rfl, rfl, rfl, rfl, rfl⟩
  have R1 := R0.step ((Below.refl _ _).alloc (Nat.le_refl _) (.cells #[.string { data := #[] }, .string { data := #[] }, .string { data := #[] }, .string { data := #[] }, .string { data := #[] }, .string { data := #[] }] 49))
  have L1 := TapAt.new (w.alloc (.cells #[.string { data := #[] }, .string { data := #[] }, .string { data := #[] }, .string { data := #[] }, .string { data := #[] }, .string { data := #[] }] 49)) 49 { data := #[] } { data := #[] } { data := #[] } { data := #[] } { data := #[] } { data := #[] } (f := logF m.lo 0) ⟨rfl, rfl, rfl, rfl, rfl, rfl⟩
  have hB1 := ((Below.refl w.heap.size w).alloc (Nat.le_refl _) (.cells #[.string { data := #[] }, .string { data := #[] }, .string { data := #[] }, .string { data := #[] }, .string { data := #[] }, .string { data := #[] }] 49)).alloc (by simp) (.cells #[.string { data := #[] }, .string { data := #[] }, .string { data := #[] }, .string { data := #[] }, .string { data := #[] }, .string { data := #[] }] 49)
  have e1 : (w.alloc (.cells #[.string { data := #[] }, .string { data := #[] }, .string { data := #[] }, .string { data := #[] }, .string { data := #[] }, .string { data := #[] }] 49)).heap.size = w.heap.size + 1 := by simp
  rw [e1] at L1
  replace R1 : Kp _ := ⟨R1⟩
  replace L1 : Kp _ := ⟨L1⟩
  replace hB1 : Kp _ := ⟨hB1⟩
  have H' : Kp _ := ⟨H⟩
  clear H R0 e1
  go_enter Try.func79, Try.ntmps79
  go_wp2_with fail
  go_loopw [4] (fun lv wr => ∃ k : Nat, k ≤ 6 ∧ lv = .int .i64 k ∧ Kp (TapAt wr (w.heap.size + 1) (logF m.lo k) ∧ TapAt wr w.heap.size (fun _ => { data := #[] }) ∧ Below w.heap.size w wr)) (fun lv _ => 6 - (intOf lv).toNat)
  case atStart => exact ⟨0, by omega, rfl, ⟨L1.out, R1.out, hB1.out⟩⟩
  case round =>
    clear L1 R1 hB1
    obtain ⟨k, hk, rfl, hR⟩ := hrel
    obtain ⟨L, R, hB⟩ := hR.out
    clear hR
    by_cases hlt6 : k < 6
    · have hk6 : (k : Int) < 6 := by omega
      have H1 := H'.out.step hB
      obtain ⟨S, hS⟩ := H1.lg
      have q0 := hS.c k hlt6
      have hcv := conv_row (m.lo k) (hS.o k hlt6)
      have p0 := L.c k hlt6
      have p1 := L.f k hlt6
      have L2 := L.set hlt6 (bs (m.lo k))
      have R2 := R.far (b := w.heap.size + 1) (k := k) (x := .string (bs (m.lo k))) (by omega)
      have hB2 := hB.setCell (p := ⟨w.heap.size + 1, k, none⟩) (Nat.le_succ _) (.string (bs (m.lo k)))
      have fin : Kp (TapAt (wr.setCell ⟨w.heap.size + 1, k, none⟩ (.string (bs (m.lo k)))) (w.heap.size + 1) (logF m.lo (k + 1)) ∧ TapAt (wr.setCell ⟨w.heap.size + 1, k, none⟩ (.string (bs (m.lo k)))) w.heap.size (fun _ => { data := #[] }) ∧ Below w.heap.size w (wr.setCell ⟨w.heap.size + 1, k, none⟩ (.string (bs (m.lo k))))) := ⟨by
        refine ⟨?_, R2, hB2⟩
        have e : (fun j => if j = k then bs (m.lo k) else logF m.lo k j) = logF m.lo (k + 1) := by
          funext j
          unfold logF
          by_cases e : j = k
          · subst e; rw [if_pos rfl, if_pos (by omega)]
          · rw [if_neg e]
            by_cases e2 : j < k
            · rw [if_pos e2, if_pos (by omega)]
            · rw [if_neg e2, if_neg (by omega)]
        rw [← e]
        exact L2⟩
      generalize bs (m.lo k) = y at *
      generalize S k = sv at *
      clear L R hB H1 hS L2 R2 hB2
      go_wp2_with fail
      go_roundw
      case rel => exact ⟨k + 1, by omega, by go_num, fin⟩
      case measure => simp [intOf]; omega
    · have e6 : k = 6 := by omega
      subst e6
      have l0 := L.c 0 (by omega)
      have l1 := L.c 1 (by omega)
      have l2 := L.c 2 (by omega)
      have l3 := L.c 3 (by omega)
      have l4 := L.c 4 (by omega)
      have l5 := L.c 5 (by omega)
      have r0 := R.c 0 (by omega)
      have r1 := R.c 1 (by omega)
      have r2 := R.c 2 (by omega)
      have r3 := R.c 3 (by omega)
      have r4 := R.c 4 (by omega)
      have r5 := R.c 5 (by omega)
      have f0 := R.f 0 (by omega)
      have f1 := R.f 1 (by omega)
      have f2 := R.f 2 (by omega)
      have f3 := R.f 3 (by omega)
      have f4 := R.f 4 (by omega)
      have f5 := R.f 5 (by omega)
      have z : ∀ j : Nat, j < 6 → logF m.lo 6 j = bs (m.lo j) := fun j hj => by unfold logF; rw [if_pos hj]
      rw [z 0 (by omega)] at l0
      rw [z 1 (by omega)] at l1
      rw [z 2 (by omega)] at l2
      rw [z 3 (by omega)] at l3
      rw [z 4 (by omega)] at l4
      rw [z 5 (by omega)] at l5
      have hB9 := (((((hB.setCell (p := ⟨w.heap.size, 0, none⟩) (Nat.le_refl _) (.string (bs (m.lo (0 : Nat))))).setCell (p := ⟨w.heap.size, 1, none⟩) (Nat.le_refl _) (.string (bs (m.lo (1 : Nat))))).setCell (p := ⟨w.heap.size, 2, none⟩) (Nat.le_refl _) (.string (bs (m.lo (2 : Nat))))).setCell (p := ⟨w.heap.size, 3, none⟩) (Nat.le_refl _) (.string (bs (m.lo (3 : Nat))))).setCell (p := ⟨w.heap.size, 4, none⟩) (Nat.le_refl _) (.string (bs (m.lo (4 : Nat))))).setCell (p := ⟨w.heap.size, 5, none⟩) (Nat.le_refl _) (.string (bs (m.lo (5 : Nat))))
      replace hB9 : Kp _ := ⟨hB9⟩
      clear z L R hB H'
      go_wp2_with fail
      exact bodyPost_ret (v := tapV fun l => bs (m.lo l)) (by simp [results, Try.results79, go_sem, r0, r1, r2, r3, r4, r5, tapV]) rfl ⟨rfl, hB9.out⟩
end Go.Proofs.Ytcnbifdlkalimaa

/-
  The walks of the package machine, sixth part: the variables as a text; for every hand.
-/
namespace Go.Proofs.Ytcnbifdlkalimaa
open Go.RowKit
set_option linter.unusedVariables false
set_option maxRecDepth 100000

theorem Own.grown {w w' : World} {b : Nat} {vs : List Value} {row : Option Nat} (h : Own w b vs) (hg : w.grownBy w' row) (hne : some b ≠ row) : Own w' b vs :=
  ⟨Nat.lt_of_lt_of_le h.lt hg.size, fun i v hv => by rw [World.cell?_of_block (w := w) (hg.block b h.lt hne)]; exact h.c i v hv, fun i v hv => by rw [World.frozen?_of_block (w := w) (hg.block b h.lt hne)]; exact h.f i v hv⟩

set_option maxHeartbeats 1600000 in
theorem allVars_any (b : Nat) (n : Int) (t v c : ByteArray) (T : Int → ByteArray) (m : Hnd) (w : World) (H : MchAt w b n t v c T m) (hc : c.size ≤ maxLen) (hv8 : v.size ≤ 8) (V : Kp (Vals m)) :
    Calls Try.prog 80 #[.pointer (some ⟨b, 0, none⟩)] w fun e w' => e = .returned (.string (bs (lst m.va v.size))) ∧ Below w.heap.size w w' := by
  have c0 := H.c0
  have c1 := H.c1
  have c2 := H.c2
  have c3 := H.c3
  have hlt := H.lt
  have hI := fun w1 => info_any n t v c w1 hc (by unfold maxLen; omega)
  replace hI : Kp _ := ⟨hI⟩
  have H' : Kp _ := ⟨H⟩
  obtain ⟨i0, hi0, hz0, hz1, hz2⟩ := info_parts info_byte
  have hvi : (v.size : Int) ≤ 8 := by omega
  clear H hc
  go_enter Try.func80, Try.ntmps80
  go_wp2_with fail
  refine (hI.out _).mono ?_
  rintro e w1 ⟨rfl, hb1⟩
  have H1 := H'.out.step hb1
  have hs1 := hb1.size
  have O1 := Own.new3 w1 (.int .i64 n) (.int .i64 v.size) (.int .i64 (half c)) 32
  have O2 := O1.alloc (.cells #[] 5)
  have W2 : Kp ((((w1.alloc (.cells #[.int .i64 n, .int .i64 v.size, .int .i64 (half c)] 32)).alloc (.cells #[] 5)).ownsRow (w1.heap.size + 1) 5 1 (.slice (some ⟨w1.heap.size + 1, 0, none⟩) 0 0) 0 []) ∧ Below w1.heap.size w1 ((w1.alloc (.cells #[.int .i64 n, .int .i64 v.size, .int .i64 (half c)] 32)).alloc (.cells #[] 5))) := ⟨by
    have := World.ownsRow_lit (base := w1.heap.size + 1) (e := 5) (size := 1) (w1.alloc (.cells #[.int .i64 n, .int .i64 v.size, .int .i64 (half c)] 32)) #[] 0 (by simp) (by unfold maxLen; omega) rfl
    simpa using this, ((Below.refl _ _).alloc (Nat.le_refl _) _).alloc (by simp) _⟩
  replace O2 : Kp _ := ⟨O2⟩
  clear O1 c0 c1 c2 c3 H'
  go_wp2_with fail
  go_loopw [4, 5] (fun hv lv wr => ∃ k : Nat, k ≤ v.size ∧ lv = .int .i64 k ∧ Kp (wr.ownsRow (w1.heap.size + 1) 5 1 hv k ((lst m.va k).map (Value.int .u8))) ∧ Kp (Own wr w1.heap.size [.int .i64 n, .int .i64 v.size, .int .i64 (half c)]) ∧ Kp (Below w1.heap.size w1 wr)) (fun _ lv _ => v.size - (intOf lv).toNat)
  case atStart => exact ⟨0, by omega, rfl, ⟨W2.out.1⟩, O2, ⟨W2.out.2⟩⟩
  case round =>
    clear O2 W2
    obtain ⟨k, hk, rfl, hrow, hO, hB⟩ := hrel
    have ol := hO.out.lt
    have o1 := hO.out.c 1 _ rfl
    by_cases hkv : k < v.size
    · have hki : (k : Int) < (v.size : Int) := by omega
      have hk8 : (k : Int) < 8 := by omega
      have H2 := H1.step hB.out
      have g0 := H2.va k (by omega)
      obtain ⟨x0, x9⟩ := V.out.va k
      generalize hx : m.va k = x at *
      have hw8 : IntKind.u8.wrap x = x := wrap_byte x0 x9
      replace hx : Kp _ := ⟨hx⟩
      clear H2
      go_wp2_with (at_builtin; refine wpList_append_own _ rfl _ _ 58 rfl (w1.heap.size + 1) 5 i0 (.int .u8 0) 1 1 Try.underlying58 hi0 hz0 hz1 hz2 rfl (by decide) _ _ _ rfl (hrow.out.alloc _) ⟨wr.heap.size, 0, none⟩ 1 1 [.int .u8 x] rfl rfl ?a1 ?a2 ?a3 ?a4 ?a5 ?_)
      case a1 =>
        intro j u hj
        match j, hj with
        | 0, hj => simp at hj; subst hj; simp [Addr.add]
      case a2 => intro u hu; simp at hu; subst hu; rfl
      case a3 => unfold maxLen; omega
      case a4 => omega
      case a5 => simp; omega
      intro v' w3 hown3 hgrow _
      have hrow3 : Kp (w3.ownsRow (w1.heap.size + 1) 5 1 v' (k + 1) ((lst m.va (k + 1)).map (Value.int .u8))) := ⟨by rw [lst_succ, List.map_append, hx.out]; exact hown3⟩
      have hO3 : Kp (Own w3 w1.heap.size [.int .i64 n, .int .i64 v.size, .int .i64 (half c)]) := ⟨(hO.out.alloc _).grown hgrow (fun e => by have := (hrow.out.lt _ e.symm).1; omega)⟩
      have hB3 : Kp (Below w1.heap.size w1 w3) := ⟨(hB.out.alloc (Nat.le_of_lt ol) _).grown hgrow (by simp; omega) (fun j hj => Nat.le_of_succ_le (hrow.out.lt j hj).1)⟩
      clear hown3 hgrow hrow hO hB ol o1 g0
      go_wp2_with fail
      go_roundw
      case rel => exact ⟨k + 1, by omega, by go_num, hrow3, hO3, hB3⟩
      case measure => simp [intOf]; omega
    · have e8 : k = v.size := by omega
      have hcv := conv_row (lst m.va k) (by rw [lst_len]; exact hrow.out)
      rw [e8] at hcv
      rw [e8]
      have hBe : Kp (Below w.heap.size w wr) := ⟨hb1.trans (hB.out.mono hs1)⟩
      clear hrow hO hB hb1 H1
      obtain ⟨y, hy⟩ : ∃ y, bs (lst m.va v.size) = y := ⟨_, rfl⟩
      rw [hy] at hcv
      replace hy : Kp _ := ⟨hy⟩
      go_wp2_with fail
      go_ret
      exact ⟨by rw [hy.out]; rfl, hBe.out⟩
end Go.Proofs.Ytcnbifdlkalimaa
