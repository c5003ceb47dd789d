/-
  sign: Check, checkBoth, places.
-/
import Derived.Test.YtmnbjkbkjmgmkaaDoorInv
import Derived.Test.YtmnbjkbkjmgmkaaDoorSgM
import Derived.RangeFuncNested
import Derived.RangeFuncBound
import Derived.RangeFuncCalls
import Derived.RangeFuncLeaves
import Derived.RangeFuncBox
import Derived.Shelf.Abstract
import Derived.Shelf.RegionOpen
import Derived.WalkKit
import Derived.OwnWalkIn
import Derived.TacticsInMore
import Derived.LoopNIn
import Derived.LoopIn
set_option linter.unusedSimpArgs false
set_option linter.unusedVariables false
namespace Go.Proofs.YtmnbjkbkjmgmkaaDoor
open Go Go.Proofs Go.RowKit Go.Shelf

attribute [local go_sem] Oper.semAt_some

/-- Block B lies as it lay. -/
def Kb (B : Nat) (W W' : World) : Prop := W.heap.size ≤ W'.heap.size ∧ (B < W.heap.size → W'.heap[B]? = W.heap[B]?)
theorem Kb.refl (B : Nat) (W : World) : Kb B W W := ⟨Nat.le_refl _, fun _ => rfl⟩
theorem Kb.trans {B : Nat} {W W1 W2 : World} (h : Kb B W W1) (k : Kb B W1 W2) : Kb B W W2 := ⟨Nat.le_trans h.1 k.1, fun hl => (k.2 (Nat.lt_of_lt_of_le hl h.1)).trans (h.2 hl)⟩
theorem Kb.cell {B : Nat} {W W' : World} (h : Kb B W W') {p : Addr} (hp : p.block = B) (hl : B < W.heap.size) : W'.cell? p = W.cell? p := World.cell?_of_block (by rw [hp]; exact h.2 hl)
theorem Kb.of_below {B : Nat} {W W' : World} (h : Below W.heap.size W W') : Kb B W W' := ⟨h.size, fun hl => h.block B hl⟩
theorem Kb.alloc {B : Nat} {W W' : World} (h : Kb B W W') (o : Obj) : Kb B W (W'.alloc o) := h.trans (Kb.of_below ((Below.refl _ W').alloc (Nat.le_refl _) o))
theorem Kb.set {B : Nat} {W W' : World} (h : Kb B W W') (p : Addr) (v : Value) (hp : p.block ≠ B) : Kb B W (W'.setCell p v) :=
  h.trans ⟨by simp, fun _ => heap_setCell_other W' p B v (fun e => hp e.symm)⟩
theorem Kb.grown {B : Nat} {W W' W2 : World} (h : Kb B W W') {row : Option Nat} (hg : W'.grownBy W2 row) (hr : ∀ r, row = some r → r ≠ B) : Kb B W W2 :=
  h.trans ⟨hg.size, fun hl => hg.block B hl (fun e => hr B e.symm rfl)⟩
theorem kb_b {B : Nat} {w : World} (hB : B < w.heap.size) (W : World) (l : Nat) (o o' : Obj) (hl : w.heap.size ≤ l) (h : W.heap[l]? = some o) (_ : o.isCells = false) (_ : o.isWalk = false) : Kb B W (W.putObj l o') :=
  (Kb.refl B W).grown (grownBy_putObj' W l o') (fun r e => by cases e; omega)
theorem kb_own {β : Type} {B n : Nat} (hB : B < n) (W0 : World) : OwnFrom n (fun (_ : β) W => Kb B W0 W) := fun _ W W' row hs hg hr => hs.grown hg (fun r e => by have := (hr r e).1; omega)

/-- What Check answers. -/
def okS (s : Int) : Bool := decide (0 ≤ s ∧ s ≤ 7)
def errS (s : Int) : Int := if okS s then 0 else 2
def errB (s t : Int) : Int := if okS s then errS t else 2
theorem okS_nat {s : Int} (h : okS s = true) : ∃ m : Nat, s = (m : Int) ∧ m < 8 := by
  unfold okS at h
  have h' := of_decide_eq_true h
  exact ⟨s.toNat, by omega, by omega⟩
theorem okS_of {m : Nat} (h : m < 8) : okS (m : Int) = true := by unfold okS; exact decide_eq_true (by omega)
theorem errS_ok {s : Int} (h : okS s = true) : errS s = 0 := by unfold errS; rw [if_pos h]
theorem errB_ok {s t : Int} (h : okS s = true) (k : okS t = true) : errB s t = 0 := by unfold errB; rw [if_pos h, errS_ok k]
theorem errB_cases (s t : Int) : (okS s = true ∧ okS t = true ∧ errB s t = 0) ∨ ((okS s = false ∨ okS t = false) ∧ errB s t = 2) := by
  unfold errB errS
  cases okS s <;> cases okS t <;> simp

set_option maxHeartbeats 1000000 in
theorem sgCheck_any (s : Int) (w : World) : Calls Tryd.prog 19 #[.int .i64 s] w fun e w' => e = .returned (.int .i64 (errS s)) ∧ w' = w := by
  unfold errS okS
  by_cases h0 : s < 0
  · rw [if_neg (by simp; omega)]
    have t1 : decide (s < 0) = true := decide_eq_true h0
    go_enter Tryd.func19, Tryd.ntmps19
    go_wp2
    go_ret
    exact ⟨rfl, rfl⟩
  · have t1 : decide (s < 0) = false := decide_eq_false h0
    by_cases h1 : s ≤ 7
    · rw [if_pos (by simp; omega)]
      have t2 : decide (7 < s) = false := decide_eq_false (by omega)
      go_enter Tryd.func19, Tryd.ntmps19
      go_wp2
      go_ret
      exact ⟨rfl, rfl⟩
    · rw [if_neg (by simp; omega)]
      have t2 : decide (7 < s) = true := decide_eq_true (by omega)
      go_enter Tryd.func19, Tryd.ntmps19
      go_wp2
      go_ret
      exact ⟨rfl, rfl⟩

set_option maxHeartbeats 1000000 in
theorem sgBoth_any (s t : Int) (w : World) : Calls Tryd.prog 47 #[.int .i64 s, .int .i64 t] w fun e w' => e = .returned (.int .i64 (errB s t)) ∧ w' = w := by
  have C1 := fun W => sgCheck_any s W
  have C2 := fun W => sgCheck_any t W
  unfold errB
  cases h : okS s with
  | true =>
    rw [errS_ok h] at C1
    have K1 := Lib.hid C1; have K2 := Lib.hid C2; clear C1 C2 h
    go_enter Tryd.func47, Tryd.ntmps47
    go_wp2_with (first | (go_at_call 19; refine (K1.out _).mono ?_; clear K1; rintro e w1 ⟨rfl, rfl⟩) | (go_at_call 19; refine (K2.out _).mono ?_; rintro e w1 ⟨rfl, rfl⟩))
    go_ret
    exact ⟨rfl, rfl⟩
  | false =>
    have e1 : errS s = 2 := by unfold errS; rw [h]; rfl
    rw [e1] at C1
    have K1 := Lib.hid C1; clear C1 C2 h e1
    go_enter Tryd.func47, Tryd.ntmps47
    go_wp2_with (go_at_call 19; refine (K1.out _).mono ?_; rintro e w1 ⟨rfl, rfl⟩)
    go_ret
    exact ⟨rfl, rfl⟩

/-! The places of a set. -/
def plEnc (x : Fin 3) : Array Value := #[.int .i64 (x.val : Int)]
abbrev vals3 (l : List (Fin 3)) : List Nat := l.map Fin.val
/-- The places below k. -/
def plcK (s k : Nat) : List Nat := (List.range k).filter fun k => s / 2 ^ k % 2 == 1
theorem plcK_succ (s k : Nat) : plcK s (k + 1) = plcK s k ++ if s / 2 ^ k % 2 = 1 then [k] else [] := by
  unfold plcK
  rw [List.range_succ, List.filter_append]
  congr 1
  by_cases h : s / 2 ^ k % 2 = 1 <;> simp [h]
theorem plcK_len (s k : Nat) : (plcK s k).length ≤ k := by
  unfold plcK; exact Nat.le_trans (List.length_filter_le _ _) (by simp)
theorem bitS (s : Nat) (hs : s < 8) (k : Nat) (hk : k < 3) : bits .and .i64 (((s : Nat) : Int) / 2 ^ k) 1 = ((s / 2 ^ k % 2 : Nat) : Int) := by
  have h : ∀ s : Fin 8, ∀ k : Fin 3, bits .and .i64 (((s.val : Nat) : Int) / 2 ^ k.val) 1 = ((s.val / 2 ^ k.val % 2 : Nat) : Int) := by decide +kernel
  exact h ⟨s, hs⟩ ⟨k, hk⟩

set_option maxRecDepth 100000 in
set_option maxHeartbeats 4000000 in
theorem places1_in (F : Fence) (n : Nat) (h6 : F.fn 60) (hro : F.round = none) (hn : 1 ≤ n) (l B s : Nat) (hs : s < 8) (J Jx : List (Fin 3) → World → Prop)
    (hY : ∀ pre x W, J pre W → pre.length < 3 → YieldAt F (n - 1) Tryd.prog l (plEnc x) W fun e W' =>
      (e = .returned (.bool true) ∧ J (pre ++ [x]) W' ∧ Kb B W W') ∨ (e = .returned (.bool false) ∧ Jx (pre ++ [x]) W'))
    (W : World) (hl : B < W.heap.size) (hc : W.cell? ⟨B, 0, none⟩ = some (.int .i64 (s : Int))) (h0 : J [] W) :
    CallsIn F n Tryd.prog 60 #[.func (.yield l) #[] #[], .pointer (some ⟨B, 0, none⟩)] W fun e W' => (∃ v, e = .returned v) ∧
      ((∃ ys, vals3 ys = plc s ∧ J ys W') ∨ (∃ pre, True ∧ Jx pre W')) := by
  have hcW : ∀ V, Kb B W V → V.cell? ⟨B, 0, none⟩ = some (.int .i64 (s : Int)) := fun V hV => (hV.cell rfl hl).trans hc
  have KY := Lib.hid hY; have KC := Lib.hid hcW; have HL := Lib.hid hl
  clear hY hcW hc hl
  refine callsIn_of_wp Tryd.func60 rfl h6 ?_ hro
  simp only [Tryd.ntmps60, List.size_toArray, List.length_cons, List.length_nil, Nat.reduceAdd, Nat.reduceSub, Array.replicate_succ, Array.replicate_zero, List.push_toArray, List.append_toArray, List.nil_append, List.cons_append]
  gi_wp2
  gi_loopw [4] (fun p wr => ∃ (k : Nat) (pre : List (Fin 3)), k ≤ 3 ∧ p = .int .i64 (k : Int) ∧ vals3 pre = plcK s k ∧ J pre wr ∧ Kb B W wr) (fun p _ => 3 - (intOf p).toNat)
  case atStart => exact ⟨0, [], by omega, rfl, rfl, h0, Kb.refl _ _⟩
  case round =>
    obtain ⟨k, pre, hk, rfl, hpre, hJ, hkb⟩ := hrel
    have HP := Lib.hid hpre; have HJ := Lib.hid hJ; clear hpre hJ
    by_cases hlt : k < 3
    · have hc := KC.out wr hkb
      have hb := bitS s hs k hlt
      have HK := Lib.hid hkb; clear hkb
      have t1 : decide ((k : Int) < 3) = true := decide_eq_true (by omega)
      have k0 : (0 : Int) ≤ (k : Int) := by omega
      have k1 : (k : Int) ≤ 64 := by omega
      have hms : s / 2 ^ k % 2 = 0 ∨ s / 2 ^ k % 2 = 1 := by omega
      have hsu := plcK_succ s k
      generalize s / 2 ^ k % 2 = m at *
      rcases hms with rfl | rfl
      · have hb0 : bits .and .i64 ((s : Int) / 2 ^ k) 1 = 0 := hb
        clear hb
        gi_wp2
        refine ⟨fun _ h => (by cases h), ?_⟩
        gi_wp2
        go_roundw
        case rel => exact ⟨k + 1, pre, by omega, rfl, by rw [hsu, if_neg (by decide), List.append_nil]; exact HP.out, HJ.out, HK.out⟩
        case measure => (simp [intOf]; omega)
      · have hb1 : bits .and .i64 ((s : Int) / 2 ^ k) 1 = 1 := hb
        clear hb
        have hlen : pre.length < 3 := by
          have h1 := congrArg List.length HP.out
          rw [List.length_map] at h1
          have := plcK_len s k; omega
        obtain ⟨fn, tmps, assign, body, hy, hR⟩ := KY.out pre ⟨k, hlt⟩ wr HJ.out hlen
        unfold plEnc at hy
        dsimp only at hy
        have KR := Lib.hid hR; clear hR
        gi_wp2
        refine KR.out.mono ?_
        rintro e W3 (⟨rfl, hJ3, hk3⟩ | ⟨rfl, hJx3⟩)
        · gi_wp2
          go_roundw
          case rel => exact ⟨k + 1, pre ++ [⟨k, hlt⟩], by omega, rfl, by rw [hsu, if_pos trivial, vals3, List.map_append]; exact congrArg (· ++ [k]) HP.out, hJ3, HK.out.trans hk3⟩
          case measure => (simp [intOf]; omega)
        · gi_wp2
          refine bodyPost_ret (results_none rfl _ _ _) rfl ?_
          exact ⟨⟨_, rfl⟩, .inr ⟨pre ++ [⟨k, hlt⟩], trivial, hJx3⟩⟩
    · have hk3 : k = 3 := by omega
      subst hk3
      gi_wp2
      go_end0
      exact ⟨⟨_, rfl⟩, .inl ⟨pre, HP.out, HJ.out⟩⟩

set_option maxHeartbeats 1000000 in
theorem places_in (F : Fence) (n : Nat) (h5 : F.fn 52) (hro : F.round = none) (s : Int) (w : World) :
    CallsIn F n Tryd.prog 52 #[.int .i64 s] w fun e w' => e = .returned (.func (.func 60) #[] #[.pointer (some ⟨w.heap.size, 0, none⟩)]) ∧ w' = w.alloc (.cells #[.int .i64 s] 3) := by
  refine callsIn_of_wp Tryd.func52 rfl h5 ?_ hro
  simp only [Tryd.ntmps52, List.size_toArray, List.length_cons, List.length_nil, Nat.reduceAdd, Nat.reduceSub, Array.replicate_succ, Array.replicate_zero, List.push_toArray, List.append_toArray, List.nil_append, List.cons_append]
  gi_wp2
  go_ret
  exact ⟨rfl, rfl⟩

theorem places_stops (F : Fence) (n : Nat) (h6 : F.fn 60) (hro : F.round = none) (hn : 1 ≤ n) (B s : Nat) (hs : s < 8) (w : World) (hB : B < w.heap.size)
    (hc : w.cell? ⟨B, 0, none⟩ = some (.int .i64 (s : Int))) :
    SeqStopsK F n Tryd.prog 60 #[.pointer (some ⟨B, 0, none⟩)] plEnc (Kb B) (fun ys => vals3 ys = plc s) (fun _ => True) 3 w := fun l J Jx W hW _ _ hY h0 =>
  places1_in F n h6 hro hn l B s hs J Jx hY W (Nat.lt_of_lt_of_le hB hW.size) ((hW.cell (p := ⟨B, 0, none⟩) hB).trans hc) h0
end Go.Proofs.YtmnbjkbkjmgmkaaDoor
