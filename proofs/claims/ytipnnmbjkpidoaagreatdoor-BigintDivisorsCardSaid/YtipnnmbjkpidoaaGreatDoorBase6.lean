import Derived.Deep.RegionWith
import Derived.Test.YtipnnmbjkpidoaaGreatDoorBase5
import Derived.Test.YtipnnmbjkpidoaaGreatDoorBase2
import Derived.Test.YtipnnmbjkpidoaaGreatDoorBase4

set_option linter.unusedVariables false
/-
  bigint: numbers from magnitudes and signs.
-/
namespace Go.Proofs.YtipnnmbjkpidoaaGreatDoor
open Go Go.Proofs Go.RowKit

/-- What is known behind a store into a result's box of type number. -/
structure Stored (w V : World) (B : Nat) (b : Bool) (ao : Option Addr) (n c : Nat) : Prop where
  q0 : ((V.setCell ⟨B, 0, none⟩ (.bool b)).setCell ⟨B, 1, none⟩ (.slice ao n c)).cell? ⟨B, 0, none⟩ = some (.bool b)
  q1 : ((V.setCell ⟨B, 0, none⟩ (.bool b)).setCell ⟨B, 1, none⟩ (.slice ao n c)).cell? ⟨B, 1, none⟩ = some (.slice ao n c)
  below : Below w.heap.size w ((V.setCell ⟨B, 0, none⟩ (.bool b)).setCell ⟨B, 1, none⟩ (.slice ao n c))
  row : ∀ (a2 : Option Addr) (c2 : Nat) (l : List Nat), RowAt V a2 c2 l → RowAt ((V.setCell ⟨B, 0, none⟩ (.bool b)).setCell ⟨B, 1, none⟩ (.slice ao n c)) a2 c2 l

theorem stored {w V : World} {B : Nat} {b0 : Bool} {a1 : Option Addr} {n1 c1 : Nat} (hB : w.heap.size ≤ B) (e0 : V.cell? ⟨B, 0, none⟩ = some (.bool b0)) (e1 : V.cell? ⟨B, 1, none⟩ = some (.slice a1 n1 c1)) (hb : Below w.heap.size w V) (b : Bool) (ao : Option Addr) (n c : Nat) : Stored w V B b ao n c where
  q0 := by rw [World.cell?_setCell_other (h := by simp)]; exact cellSet e0 _
  q1 := cellSet (u := .slice a1 n1 c1) (by rw [World.cell?_setCell_other (h := by simp)]; exact e1) _
  below := (hb.setCell (p := ⟨B, 0, none⟩) hB _).setCell (p := ⟨B, 1, none⟩) hB _
  row := fun a2 c2 l hr => by
    refine RowAt.boxV (RowAt.boxV hr (fun k => ?_) _) (fun k => ?_) _
    · rw [e0]; simp
    · rw [World.cell?_setCell_other (h := by simp), e1]; simp

/-- A box with a magnitude, and behind it one for a result of type number. -/
structure MBox (w W : World) (B : Nat) (m : Value) : Prop where
  lt : B + 1 < W.heap.size
  c0 : W.cell? ⟨B, 0, none⟩ = some m
  r0 : W.cell? ⟨B + 1, 0, none⟩ = some (.bool false)
  r1 : W.cell? ⟨B + 1, 1, none⟩ = some (.slice none 0 0)
  f0 : W.frozen? ⟨B + 1, 0, none⟩ = false
  f1 : W.frozen? ⟨B + 1, 1, none⟩ = false
  below : Below w.heap.size w W
theorem MBox.mono {w W W' : World} {B : Nat} {m : Value} (h : MBox w W B m) (k : Below W.heap.size W W') : MBox w W' B m := by
  have hl := h.lt
  exact ⟨Nat.lt_of_lt_of_le hl k.size, (k.cell (p := ⟨B, 0, none⟩) (by simp; omega)).trans h.c0, (k.cell (p := ⟨B + 1, 0, none⟩) (by simp; omega)).trans h.r0, (k.cell (p := ⟨B + 1, 1, none⟩) (by simp; omega)).trans h.r1,
    (k.frozen (p := ⟨B + 1, 0, none⟩) (by simp; omega)).trans h.f0, (k.frozen (p := ⟨B + 1, 1, none⟩) (by simp; omega)).trans h.f1, Below.chain h.below k⟩

set_option maxHeartbeats 1000000 in
theorem plus_any (x : Nat) (v : Value) (w : World) (hv : NumAt w v x) :
    Calls Tryz.prog 120 #[v] w fun e w' => ∃ v', e = .returned v' ∧ IntAt w' v' (x : Int) ∧ Below w.heap.size w w' := by
  obtain ⟨ao, c, rfl, hr⟩ := hv
  have HR := Lib.hid hr; clear hr
  unfold IntAt
  rw [decide_eq_false (by omega : ¬ ((x : Int) < 0)), Int.natAbs_natCast]
  generalize hn : (limbs x).length = n
  have HN := Lib.hid hn; clear hn
  go_enter Tryz.func120, Tryz.ntmps120
  go_wp2
  refine bodyPost_ret (v := .agg #[.bool false, .slice ao n c]) (by simp [results, Tryz.results120, go_sem]) rfl ?_
  exact ⟨_, rfl, ⟨ao, c, rfl, HR.out.mono (by go_grown)⟩, by go_grown⟩

set_option maxHeartbeats 1000000 in
theorem minus_any (x : Nat) (v : Value) (w : World) (hv : NumAt w v x) :
    Calls Tryz.prog 123 #[v] w fun e w' => ∃ v', e = .returned v' ∧ IntAt w' v' (-(x : Int)) ∧ Below w.heap.size w w' := by
  have C : ∀ W : World, Below w.heap.size w W → Calls Tryz.prog 150 #[v] W fun e w' => e = .returned (.bool (decide (x = 0))) ∧ Below W.heap.size W w' := fun W hW => isZero_any x v W (hv.mono hW)
  obtain ⟨ao, c, rfl, hr⟩ := hv
  have HR := Lib.hid hr; have HC := Lib.hid C; clear hr C
  unfold IntAt
  rw [Int.natAbs_neg, Int.natAbs_natCast]
  have hd : decide (-(x : Int) < 0) = !decide (x = 0) := by
    by_cases h : x = 0
    · subst h; rfl
    · rw [decide_eq_false h, decide_eq_true (by omega)]; rfl
  rw [hd]
  generalize hn : (limbs x).length = n at *
  generalize decide (x = 0) = b at *
  have HN := Lib.hid hn; clear hn hd
  go_enter Tryz.func123, Tryz.ntmps123
  go_wp2_with fail
  have e0 : ((w.alloc (Obj.cells #[Value.slice ao n c] 79)).alloc (Obj.cells #[Value.bool false, Value.slice none 0 0] 81)).cell? ⟨w.heap.size + 1, 0, none⟩ = some (Value.bool false) := by go_cell
  have e1 : ((w.alloc (Obj.cells #[Value.slice ao n c] 79)).alloc (Obj.cells #[Value.bool false, Value.slice none 0 0] 81)).cell? ⟨w.heap.size + 1, 1, none⟩ = some (Value.slice none 0 0) := by go_cell
  have e2 : ((w.alloc (Obj.cells #[Value.slice ao n c] 79)).alloc (Obj.cells #[Value.bool false, Value.slice none 0 0] 81)).cell? ⟨w.heap.size, 0, none⟩ = some (Value.slice ao n c) := by go_cell
  have f0 : ((w.alloc (Obj.cells #[Value.slice ao n c] 79)).alloc (Obj.cells #[Value.bool false, Value.slice none 0 0] 81)).frozen? ⟨w.heap.size + 1, 0, none⟩ = false := by go_cell
  have f1 : ((w.alloc (Obj.cells #[Value.slice ao n c] 79)).alloc (Obj.cells #[Value.bool false, Value.slice none 0 0] 81)).frozen? ⟨w.heap.size + 1, 1, none⟩ = false := by go_cell
  have hb : Below w.heap.size w ((w.alloc (Obj.cells #[Value.slice ao n c] 79)).alloc (Obj.cells #[Value.bool false, Value.slice none 0 0] 81)) := by go_grown
  have hs : w.heap.size + 1 < ((w.alloc (Obj.cells #[Value.slice ao n c] 79)).alloc (Obj.cells #[Value.bool false, Value.slice none 0 0] 81)).heap.size := by simp
  generalize (w.alloc (Obj.cells #[Value.slice ao n c] 79)).alloc (Obj.cells #[Value.bool false, Value.slice none 0 0] 81) = W at *
  have MB : MBox w W (w.heap.size) (.slice ao n c) := ⟨hs, e2, e0, e1, f0, f1, hb⟩
  clear e0 e1 e2 f0 f1 hb hs
  have MD := MB.mono ((Below.refl _ _).drew)
  have j0 := MB.c0; have j1 := MB.r0; have j2 := MB.r1; have j3 := MB.f0; have j4 := MB.f1
  go_region_with (go_at_call 150; refine (HC.out _ MD.below).mono ?_; rintro e w4 ⟨rfl, hb4⟩; have M4 := MD.mono hb4; have k0 := M4.c0; have k1 := M4.r0; have k2 := M4.r1; have k3 := M4.f0; have k4 := M4.f1)
  all_goals
    have ST := stored (w := w) (V := w4) (Nat.le_succ w.heap.size) k1 k2 M4.below (!b) ao n c
    have q0 := ST.q0; have q1 := ST.q1
    go_wp2
    refine bodyPost_ret (v := .agg #[.bool (!b), .slice ao n c]) (by simp [results, Tryz.results123, go_sem, q0, q1]) rfl ?_
    exact ⟨_, rfl, ⟨ao, c, rfl, ST.row _ _ _ (HR.out.mono M4.below)⟩, ST.below⟩
end Go.Proofs.YtipnnmbjkpidoaaGreatDoor

/-
  Plain mathematics of a subtraction over limbs.
-/
namespace Go.Proofs.YtipnnmbjkpidoaaGreatDoor

/-- What the loops of a subtraction keep: x0 the limbs before, x now, t times y is taken away. -/
structure SubInv (x0 x y : List Nat) (t i q : Nat) : Prop where
  len : x.length = x0.length
  small : Small x
  rest : x.drop i = x0.drop i
  borrow : q ≤ t
  eq : val (x0.take i) + q * 1000000000 ^ i = val (x.take i) + t * val (y.take i)

theorem SubInv.start {x0 y : List Nat} {t : Nat} (hs : Small x0) : SubInv x0 x0 y t 0 0 :=
  ⟨rfl, hs, rfl, by omega, by simp [val]⟩

theorem getD_of_drop {a b : List Nat} {i : Nat} (h : a.drop i = b.drop i) : a.getD i 0 = b.getD i 0 := by
  have := congrArg (fun l => l[0]?) h
  simp only [List.getElem?_drop, Nat.add_zero] at this
  simp [List.getD_eq_getElem?_getD, this]

theorem drop_set_succ {a b : List Nat} {i v : Nat} (h : a.drop i = b.drop i) : (a.set i v).drop (i + 1) = b.drop (i + 1) := by
  rw [List.drop_set_of_lt (by omega)]
  have := congrArg (fun l => l.drop 1) h
  simpa [List.drop_drop, Nat.add_comm] using this

theorem SubInv.step {x0 x y : List Nat} {t i q : Nat} (h : SubInv x0 x y t i q) (hi : i < x0.length) (hy : Small y) :
    let p := q + t * y.getD i 0
    let low := p % 1000000000
    (x.getD i 0 < low → SubInv x0 (x.set i (x.getD i 0 + 1000000000 - low)) y t (i + 1) (p / 1000000000 + 1)) ∧
    (¬ x.getD i 0 < low → SubInv x0 (x.set i (x.getD i 0 - low)) y t (i + 1) (p / 1000000000)) := by
  intro p low
  have h1 := h.small.getD i; have h2 := hy.getD i; have h3 := h.borrow; have h4 := h.eq
  have e0 := getD_of_drop h.rest
  have hp : p ≤ t * 1000000000 := by
    have : t * y.getD i 0 ≤ t * 999999999 := Nat.mul_le_mul_left _ (by omega)
    show q + t * y.getD i 0 ≤ _
    omega
  have hd := Nat.div_add_mod p 1000000000
  have hlow : p % 1000000000 < 1000000000 := Nat.mod_lt _ (by decide)
  have hq1 : p / 1000000000 ≤ t := by omega
  have e1 : val (x0.take (i + 1)) = val (x0.take i) + x.getD i 0 * 1000000000 ^ i := by rw [val_take_getD, e0]
  have e2 : val (y.take (i + 1)) = val (y.take i) + y.getD i 0 * 1000000000 ^ i := val_take_getD y i
  have e3 : ∀ v, val ((x.set i v).take (i + 1)) = val (x.take i) + v * 1000000000 ^ i := fun v => val_set_take x i v (by rw [h.len]; exact hi)
  have e4 : p * 1000000000 ^ i = q * 1000000000 ^ i + t * (y.getD i 0 * 1000000000 ^ i) := by
    show (q + t * y.getD i 0) * _ = _
    grind
  have hlowe : low = p % 1000000000 := rfl
  clear_value p low
  constructor
  · intro hlt
    refine ⟨by simp [h.len], h.small.set _ _ (by omega), drop_set_succ h.rest, by omega, ?_⟩
    rw [e1, e2, e3, Nat.pow_succ, Nat.mul_add]
    generalize 1000000000 ^ i = P at *
    generalize x.getD i 0 = a at *
    obtain ⟨r, hr⟩ : ∃ r, a + 1000000000 = low + r := ⟨a + 1000000000 - low, by omega⟩
    have e5 : a + 1000000000 - low = r := by omega
    rw [e5]
    have e6 : (a + 1000000000) * P = (low + r) * P := by rw [hr]
    have e7 : (1000000000 * (p / 1000000000) + p % 1000000000) * P = p * P := by rw [hd]
    rw [hlowe] at e6
    generalize p / 1000000000 = u at *
    generalize p % 1000000000 = v at *
    grind
  · intro hlt
    refine ⟨by simp [h.len], h.small.set _ _ (by omega), drop_set_succ h.rest, by omega, ?_⟩
    rw [e1, e2, e3, Nat.pow_succ, Nat.mul_add]
    generalize 1000000000 ^ i = P at *
    generalize x.getD i 0 = a at *
    obtain ⟨r, hr⟩ : ∃ r, a = low + r := ⟨a - low, by omega⟩
    have e5 : a - low = r := by omega
    rw [e5]
    have e6 : a * P = (low + r) * P := by rw [hr]
    have e7 : (1000000000 * (p / 1000000000) + p % 1000000000) * P = p * P := by rw [hd]
    rw [hlowe] at e6
    generalize p / 1000000000 = u at *
    generalize p % 1000000000 = v at *
    grind

/-- The second loop: what is missing is taken from the limbs above y. -/
theorem SubInv.carry {x0 x y : List Nat} {t i q : Nat} (h : SubInv x0 x y t i q) (hi : i < x0.length) (hyi : y.length ≤ i) (ht : t < 1000000000) (hq : 0 < q) :
    (x.getD i 0 < q → SubInv x0 (x.set i (x.getD i 0 + 1000000000 - q)) y t (i + 1) 1) ∧
    (¬ x.getD i 0 < q → SubInv x0 (x.set i (x.getD i 0 - q)) y t (i + 1) 0) := by
  have h1 := h.small.getD i; have h3 := h.borrow; have h4 := h.eq
  have e0 := getD_of_drop h.rest
  have e1 : val (x0.take (i + 1)) = val (x0.take i) + x.getD i 0 * 1000000000 ^ i := by rw [val_take_getD, e0]
  have e2 : y.take (i + 1) = y.take i := by rw [List.take_of_length_le (by omega), List.take_of_length_le (by omega)]
  have e3 : ∀ v, val ((x.set i v).take (i + 1)) = val (x.take i) + v * 1000000000 ^ i := fun v => val_set_take x i v (by rw [h.len]; exact hi)
  constructor
  · intro hlt
    refine ⟨by simp [h.len], h.small.set _ _ (by omega), drop_set_succ h.rest, by omega, ?_⟩
    rw [e1, e2, e3, Nat.pow_succ]
    generalize 1000000000 ^ i = P at *
    generalize x.getD i 0 = a at *
    obtain ⟨r, hr⟩ : ∃ r, a + 1000000000 = q + r := ⟨a + 1000000000 - q, by omega⟩
    have e5 : a + 1000000000 - q = r := by omega
    rw [e5]
    have e6 : (a + 1000000000) * P = (q + r) * P := by rw [hr]
    grind
  · intro hlt
    refine ⟨by simp [h.len], h.small.set _ _ (by omega), drop_set_succ h.rest, by omega, ?_⟩
    rw [e1, e2, e3, Nat.pow_succ]
    generalize 1000000000 ^ i = P at *
    generalize x.getD i 0 = a at *
    obtain ⟨r, hr⟩ : ∃ r, a = q + r := ⟨a - q, by omega⟩
    have e5 : a - q = r := by omega
    rw [e5]
    have e6 : a * P = (q + r) * P := by rw [hr]
    grind

/-- With nothing missing the rest is as it was. -/
theorem SubInv.still {x0 x y : List Nat} {t i : Nat} (h : SubInv x0 x y t i 0) (hi : i ≤ x0.length) (hyi : y.length ≤ i) :
    val x0 = val x + t * val y := by
  have h4 := h.eq
  rw [val_split x0 i hi, val_split x i (by rw [h.len]; exact hi), ← h.rest]
  rw [List.take_of_length_le (l := y) hyi] at h4
  omega

theorem SubInv.done {x0 x y : List Nat} {t q : Nat} (h : SubInv x0 x y t x0.length q) (hyi : y.length ≤ x0.length) :
    val x0 + q * 1000000000 ^ x0.length = val x + t * val y := by
  have h4 := h.eq
  rwa [List.take_of_length_le (l := y) hyi, List.take_of_length_le (Nat.le_refl _), List.take_of_length_le (by rw [h.len]; exact Nat.le_refl _)] at h4

theorem set_mid (a x c : List Nat) (i v : Nat) (hi : i < x.length) : (a ++ x ++ c).set (a.length + i) v = a ++ x.set i v ++ c := by
  rw [List.append_assoc, List.set_append_right _ _ (by omega), List.append_assoc]
  congr 1
  rw [show a.length + i - a.length = i by omega, List.set_append_left _ _ hi]
theorem getD_mid (a x c : List Nat) (i : Nat) (hi : i < x.length) : (a ++ x ++ c).getD (a.length + i) 0 = x.getD i 0 := by
  have h1 : a.length + i < (a ++ x ++ c).length := by simp; omega
  rw [getD_lt _ _ h1, getD_lt _ _ hi]
  simp [hi]

end Go.Proofs.YtipnnmbjkpidoaaGreatDoor

namespace Go.Proofs.YtipnnmbjkpidoaaGreatDoor
open Go Go.Proofs Go.RowKit

/-- What 'subtract' leaves: the limbs of its window, and what is missing. -/
def Subtracted (w : World) (b : Nat) (A X Y C : List Nat) (t : Nat) (e : Ending) (w' : World) : Prop :=
  ∃ q X', e = .returned (.int .u64 (q : Nat)) ∧ Blk w' b (A ++ X' ++ C) ∧ X'.length = X.length ∧ Small X' ∧ q ≤ t ∧ val X + q * 1000000000 ^ X.length = val X' + t * val Y ∧ w.grownBy w' (some b)

theorem prod_bound (t y : Nat) (ht : t < 1000000000) (hy : y < 1000000000) : 0 ≤ (t : Int) * (y : Int) ∧ (t : Int) * (y : Int) ≤ 999999998000000001 := by
  have h : t * y ≤ 999999999 * 999999999 := Nat.mul_le_mul (by omega) (by omega)
  have e : (t : Int) * (y : Int) = ((t * y : Nat) : Int) := by rw [Int.natCast_mul]
  rw [e]; omega

set_option maxHeartbeats 4000000 in
theorem subtract_any (b c d n m : Nat) (ap : Option Addr) (A X Y C : List Nat) (t : Nat) (w : World) (hb : Blk w b (A ++ X ++ C)) (hX : Small X) (hy : RowAt w ap d Y) (hY : Small Y)
    (hyb : ∀ b' o, ap = some ⟨b', o, none⟩ → Y ≠ [] → b' ≠ b) (hn : X.length = n) (hm : Y.length = m) (hmn : m ≤ n) (hnb : n ≤ 1000000000000) (ht : t < 1000000000) :
    Calls Tryz.prog 173 #[.slice (some ⟨b, A.length, none⟩) n c, .slice ap m d, .int .u64 t] w (Subtracted w b A X Y C t) := by
  have HB := Lib.hid hb; have HX := Lib.hid hX; have HYR := Lib.hid hy; have HY := Lib.hid hY; have HYB := Lib.hid hyb; have HN := Lib.hid hn; have HM := Lib.hid hm; have HMN := Lib.hid hmn
  clear hb hX hy hY hyb hn hm hmn
  generalize ho : A.length = o
  have HO := Lib.hid ho; clear ho
  go_enter Tryz.func173, Tryz.ntmps173
  go_wp2_with fail
  go_loopw [7, 15] (fun qv iv wr => ∃ (i q : Nat) (S : List Nat), i ≤ m ∧ iv = .int .i64 i ∧ qv = .int .u64 q ∧ Blk wr b (A ++ S ++ C) ∧ SubInv X S Y t i q ∧ w.grownBy wr (some b)) (fun _ iv _ => m - (intOf iv).toNat)
  case atStart => exact ⟨0, 0, X, Nat.zero_le _, rfl, rfl, HB.out, SubInv.start HX.out, grown_refl _ _⟩
  case round =>
    obtain ⟨i, q, S, hi, rfl, rfl, hbl, hinv, hgr⟩ := hrel
    have hq := hinv.borrow
    have HBL := Lib.hid hbl; have HI := Lib.hid hinv; have HG := Lib.hid hgr; clear hbl hinv hgr
    by_cases him : i < m
    · have hmn := HMN.out
      have hin : i < S.length := by have := HI.out.len; have := HN.out; omega
      have hYne : Y ≠ [] := fun h => by have := HM.out; rw [h] at this; simp at this; omega
      obtain ⟨b', o', rfl⟩ := HYR.out.addr hYne
      have hne := HYB.out b' o' rfl hYne
      have cy : wr.cell? ⟨b', o' + i, none⟩ = some (.int .u32 (Y.getD i 0 : Nat)) := gcell HG.out (HYR.out.get i (by rw [HM.out]; exact him)) (by simp; exact hne)
      have cx : wr.cell? ⟨b, o + i, none⟩ = some (.int .u32 (S.getD i 0 : Nat)) := by rw [← HO.out]; have := HBL.out.cell (A.length + i) (by simp; omega); rwa [getD_mid _ _ _ _ hin] at this
      have fx : wr.frozen? ⟨b, o + i, none⟩ = false := HBL.out.frozen _
      have hstep := HI.out.step (by have := HI.out.len; omega) HY.out
      have hset : ∀ v, Blk (wr.setCell ⟨b, o + i, none⟩ (.int .u32 ((v : Nat) : Int))) b (A ++ S.set i v ++ C) := fun v => by have := HBL.out.set (A.length + i) v; rw [set_mid _ _ _ _ _ hin, HO.out] at this; exact this
      have hset2 : ∀ v v', Blk ((wr.setCell ⟨b, o + i, none⟩ (.int .u32 ((v : Nat) : Int))).setCell ⟨b, o + i, none⟩ (.int .u32 ((v' : Nat) : Int))) b (A ++ S.set i v' ++ C) := fun v v' => by
        have := (hset v).set (A.length + i) v'; rw [set_mid _ _ _ _ _ (by simpa using hin), HO.out, List.set_set] at this; exact this
      have hy1 := HY.out.getD i
      have hx1 := HI.out.small.getD i
      generalize Y.getD i 0 = y at *
      generalize S.getD i 0 = a at *
      have hp := prod_bound t y ht hy1
      obtain ⟨hp1, hp2⟩ := hp
      have HST := Lib.hid hstep; have HSE := Lib.hid hset; have HSE2 := Lib.hid hset2
      have hil : i < n := by omega
      have HHN := Lib.hid hne
      clear hstep hset hset2 hne hYne hin hmn
      by_cases hlt : (a : Int) < ((q : Int) + (t : Int) * (y : Int)) % 1000000000
      · have e1 : a + 1000000000 - (q + t * y) % 1000000000 = a + 1000000000 - (q + t * y) % 1000000000 := rfl
        have ev : (((a + 1000000000 - (q + t * y) % 1000000000 : Nat)) : Int) = (a : Int) + 1000000000 - ((q : Int) + (t : Int) * (y : Int)) % 1000000000 := by
          have : ((q + t * y : Nat) : Int) = (q : Int) + (t : Int) * (y : Int) := by rw [Int.natCast_add, Int.natCast_mul]
          omega
        have eq : (((q + t * y) / 1000000000 + 1 : Nat) : Int) = ((q : Int) + (t : Int) * (y : Int)) / 1000000000 + 1 := by
          have : ((q + t * y : Nat) : Int) = (q : Int) + (t : Int) * (y : Int) := by rw [Int.natCast_add, Int.natCast_mul]
          omega
        have hlt' : a < (q + t * y) % 1000000000 := by
          have : ((q + t * y : Nat) : Int) = (q : Int) + (t : Int) * (y : Int) := by rw [Int.natCast_add, Int.natCast_mul]
          omega
        have h2 := HSE2.out (a + 1000000000) (a + 1000000000 - (q + t * y) % 1000000000)
        rw [ev] at h2
        have H2 := Lib.hid h2; have EQ := Lib.hid eq; have HL := Lib.hid hlt'
        clear e1 ev eq hlt' h2
        go_wp2
        go_roundw
        case rel => exact ⟨i + 1, _, _, by omega, by go_num, by rw [← EQ.out], H2.out, HST.out.1 HL.out, grown_set (grown_set HG.out _ _) _ _⟩
        case measure => simp [intOf]; omega
      · have ev : (((a - (q + t * y) % 1000000000 : Nat)) : Int) = (a : Int) - ((q : Int) + (t : Int) * (y : Int)) % 1000000000 := by
          have : ((q + t * y : Nat) : Int) = (q : Int) + (t : Int) * (y : Int) := by rw [Int.natCast_add, Int.natCast_mul]
          omega
        have eq : (((q + t * y) / 1000000000 : Nat) : Int) = ((q : Int) + (t : Int) * (y : Int)) / 1000000000 := by
          have : ((q + t * y : Nat) : Int) = (q : Int) + (t : Int) * (y : Int) := by rw [Int.natCast_add, Int.natCast_mul]
          omega
        have hlt' : ¬ a < (q + t * y) % 1000000000 := by
          have : ((q + t * y : Nat) : Int) = (q : Int) + (t : Int) * (y : Int) := by rw [Int.natCast_add, Int.natCast_mul]
          omega
        have h2 := HSE.out (a - (q + t * y) % 1000000000)
        rw [ev] at h2
        have H2 := Lib.hid h2; have EQ := Lib.hid eq; have HL := Lib.hid hlt'
        clear ev eq hlt' h2
        go_wp2
        go_roundw
        case rel => exact ⟨i + 1, _, _, by omega, by go_num, by rw [← EQ.out], H2.out, HST.out.2 HL.out, grown_set HG.out _ _⟩
        case measure => simp [intOf]; omega
    · have hi0 : i = m := by omega
      subst hi0
      go_wp2_with fail
      go_loopw [7, 11] (fun qv iv wr => ∃ (j q : Nat) (S : List Nat), i ≤ j ∧ j ≤ n ∧ iv = .int .i64 j ∧ qv = .int .u64 q ∧ Blk wr b (A ++ S ++ C) ∧ SubInv X S Y t j q ∧ w.grownBy wr (some b)) (fun _ iv _ => n - (intOf iv).toNat)
      case atStart => exact ⟨i, q, S, Nat.le_refl _, HMN.out, rfl, rfl, HBL.out, HI.out, HG.out⟩
      case round =>
        clear HBL HI HG hq
        obtain ⟨j, q, S, hij, hj, rfl, rfl, hbl, hinv, hgr⟩ := hrel
        have hq := hinv.borrow
        have HBL := Lib.hid hbl; have HI := Lib.hid hinv; have HG := Lib.hid hgr; have HIJ := Lib.hid hij; clear hbl hinv hgr hij
        by_cases hjn : j < n
        · by_cases hq0 : 0 < q
          · have hin : j < S.length := by have := HI.out.len; have := HN.out; omega
            have cx : wr.cell? ⟨b, o + j, none⟩ = some (.int .u32 (S.getD j 0 : Nat)) := by rw [← HO.out]; have := HBL.out.cell (A.length + j) (by simp; omega); rwa [getD_mid _ _ _ _ hin] at this
            have fx : wr.frozen? ⟨b, o + j, none⟩ = false := HBL.out.frozen _
            have hstep := HI.out.carry (by have := HI.out.len; omega) (by rw [HM.out]; exact HIJ.out) ht hq0
            have hset : ∀ v, Blk (wr.setCell ⟨b, o + j, none⟩ (.int .u32 ((v : Nat) : Int))) b (A ++ S.set j v ++ C) := fun v => by have := HBL.out.set (A.length + j) v; rw [set_mid _ _ _ _ _ hin, HO.out] at this; exact this
            have hset2 : ∀ v v', Blk ((wr.setCell ⟨b, o + j, none⟩ (.int .u32 ((v : Nat) : Int))).setCell ⟨b, o + j, none⟩ (.int .u32 ((v' : Nat) : Int))) b (A ++ S.set j v' ++ C) := fun v v' => by
              have := (hset v).set (A.length + j) v'; rw [set_mid _ _ _ _ _ (by simpa using hin), HO.out, List.set_set] at this; exact this
            have hx1 := HI.out.small.getD j
            generalize S.getD j 0 = a at *
            have HST := Lib.hid hstep; have HSE := Lib.hid hset; have HSE2 := Lib.hid hset2
            clear hstep hset hset2 hin
            by_cases hlt : a < q
            · have ev : (((a + 1000000000 - q : Nat)) : Int) = (a : Int) + 1000000000 - (q : Int) := by omega
              have h2 := HSE2.out (a + 1000000000) (a + 1000000000 - q)
              rw [ev] at h2
              have H2 := Lib.hid h2
              clear ev h2
              go_wp2
              go_roundw
              case rel => exact ⟨j + 1, 1, _, by have := HIJ.out; omega, by omega, by go_num, rfl, H2.out, HST.out.1 hlt, grown_set (grown_set HG.out _ _) _ _⟩
              case measure => simp [intOf]; omega
            · have ev : (((a - q : Nat)) : Int) = (a : Int) - (q : Int) := by omega
              have h2 := HSE.out (a - q)
              rw [ev] at h2
              have H2 := Lib.hid h2
              clear ev h2
              go_wp2
              go_roundw
              case rel => exact ⟨j + 1, 0, _, by have := HIJ.out; omega, by omega, by go_num, rfl, H2.out, HST.out.2 hlt, grown_set HG.out _ _⟩
              case measure => simp [intOf]; omega
          · have hq1 : q = 0 := by omega
            subst hq1
            have hs := HI.out.still (by rw [HN.out]; omega) (by rw [HM.out]; exact HIJ.out)
            have HS := Lib.hid hs; clear hs hq0 hq
            go_wp2
            go_ret
            exact ⟨0, S, rfl, HBL.out, HI.out.len, HI.out.small, Nat.zero_le _, by rw [Nat.zero_mul, Nat.add_zero]; exact HS.out, HG.out⟩
        · have hj1 : j = n := by omega
          subst hj1
          have hs : val X + q * 1000000000 ^ X.length = val S + t * val Y := by
            have h1 := HI.out
            rw [← HN.out] at h1
            exact h1.done (by rw [HM.out, HN.out]; exact HIJ.out)
          have HS := Lib.hid hs; clear hs
          go_wp2
          go_ret
          exact ⟨q, S, rfl, HBL.out, HI.out.len, HI.out.small, hq, HS.out, HG.out⟩
end Go.Proofs.YtipnnmbjkpidoaaGreatDoor
