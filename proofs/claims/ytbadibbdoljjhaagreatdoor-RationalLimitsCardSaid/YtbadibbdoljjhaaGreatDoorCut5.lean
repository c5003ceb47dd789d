import Derived.Deep.RegionWith
import Derived.Test.YtbadibbdoljjhaaGreatDoorCut4
import Derived.Test.YtbadibbdoljjhaaGreatDoorCut2
import Derived.Test.YtbadibbdoljjhaaGreatDoorCut3

set_option linter.unusedVariables false
/-
  bigint: numbers from magnitudes and signs.
-/
namespace Go.Proofs.YtbadibbdoljjhaaGreatDoor
open Go Go.Proofs Go.RowKit

/-- What is known behind a store into a result's box of type number. -/
structure Stored (w V : World) (B : Nat) (b : Bool) (ao : Option Addr) (n c : Nat) : Prop where
  q0 : ((V.setCell ⟨B, 0, none⟩ (.bool b)).setCell ⟨B, 1, none⟩ (.slice ao n c)).cell? ⟨B, 0, none⟩ = some (.bool b)
  q1 : ((V.setCell ⟨B, 0, none⟩ (.bool b)).setCell ⟨B, 1, none⟩ (.slice ao n c)).cell? ⟨B, 1, none⟩ = some (.slice ao n c)
  below : Below w.heap.size w ((V.setCell ⟨B, 0, none⟩ (.bool b)).setCell ⟨B, 1, none⟩ (.slice ao n c))
  row : ∀ (a2 : Option Addr) (c2 : Nat) (l : List Nat), RowAt V a2 c2 l → RowAt ((V.setCell ⟨B, 0, none⟩ (.bool b)).setCell ⟨B, 1, none⟩ (.slice ao n c)) a2 c2 l

theorem stored {w V : World} {B : Nat} {b0 : Bool} {a1 : Option Addr} {n1 c1 : Nat} (hB : w.heap.size ≤ B) (e0 : V.cell? ⟨B, 0, none⟩ = some (.bool b0)) (e1 : V.cell? ⟨B, 1, none⟩ = some (.slice a1 n1 c1)) (hb : Below w.heap.size w V) (b : Bool) (ao : Option Addr) (n c : Nat) : Stored w V B b ao n c where
  q0 := by rw [World.cell?_setCell_other (h := by simp)]; exact cellSet e0 _
  q1 := cellSet (u := .slice a1 n1 c1) (by rw [World.cell?_setCell_other (h := by simp)]; exact e1) _
  below := (hb.setCell (p := ⟨B, 0, none⟩) hB _).setCell (p := ⟨B, 1, none⟩) hB _
  row := fun a2 c2 l hr => by
    refine RowAt.boxV (RowAt.boxV hr (fun k => ?_) _) (fun k => ?_) _
    · rw [e0]; simp
    · rw [World.cell?_setCell_other (h := by simp), e1]; simp

/-- A box with a magnitude, and behind it one for a result of type number. -/
structure MBox (w W : World) (B : Nat) (m : Value) : Prop where
  lt : B + 1 < W.heap.size
  c0 : W.cell? ⟨B, 0, none⟩ = some m
  r0 : W.cell? ⟨B + 1, 0, none⟩ = some (.bool false)
  r1 : W.cell? ⟨B + 1, 1, none⟩ = some (.slice none 0 0)
  f0 : W.frozen? ⟨B + 1, 0, none⟩ = false
  f1 : W.frozen? ⟨B + 1, 1, none⟩ = false
  below : Below w.heap.size w W
theorem MBox.mono {w W W' : World} {B : Nat} {m : Value} (h : MBox w W B m) (k : Below W.heap.size W W') : MBox w W' B m := by
  have hl := h.lt
  exact ⟨Nat.lt_of_lt_of_le hl k.size, (k.cell (p := ⟨B, 0, none⟩) (by simp; omega)).trans h.c0, (k.cell (p := ⟨B + 1, 0, none⟩) (by simp; omega)).trans h.r0, (k.cell (p := ⟨B + 1, 1, none⟩) (by simp; omega)).trans h.r1,
    (k.frozen (p := ⟨B + 1, 0, none⟩) (by simp; omega)).trans h.f0, (k.frozen (p := ⟨B + 1, 1, none⟩) (by simp; omega)).trans h.f1, Below.chain h.below k⟩

set_option maxHeartbeats 1000000 in
theorem plus_any (x : Nat) (v : Value) (w : World) (hv : NumAt w v x) :
    Calls Tryz.prog 137 #[v] w fun e w' => ∃ v', e = .returned v' ∧ IntAt w' v' (x : Int) ∧ Below w.heap.size w w' := by
  obtain ⟨ao, c, rfl, hr⟩ := hv
  have HR := Lib.hid hr; clear hr
  unfold IntAt
  rw [decide_eq_false (by omega : ¬ ((x : Int) < 0)), Int.natAbs_natCast]
  generalize hn : (limbs x).length = n
  have HN := Lib.hid hn; clear hn
  go_enter Tryz.func137, Tryz.ntmps137
  go_wp2
  refine bodyPost_ret (v := .agg #[.bool false, .slice ao n c]) (by simp [results, Tryz.results137, go_sem]) rfl ?_
  exact ⟨_, rfl, ⟨ao, c, rfl, HR.out.mono (by go_grown)⟩, by go_grown⟩

set_option maxHeartbeats 1000000 in
theorem minus_any (x : Nat) (v : Value) (w : World) (hv : NumAt w v x) :
    Calls Tryz.prog 171 #[v] w fun e w' => ∃ v', e = .returned v' ∧ IntAt w' v' (-(x : Int)) ∧ Below w.heap.size w w' := by
  have C : ∀ W : World, Below w.heap.size w W → Calls Tryz.prog 151 #[v] W fun e w' => e = .returned (.bool (decide (x = 0))) ∧ Below W.heap.size W w' := fun W hW => isZero_any x v W (hv.mono hW)
  obtain ⟨ao, c, rfl, hr⟩ := hv
  have HR := Lib.hid hr; have HC := Lib.hid C; clear hr C
  unfold IntAt
  rw [Int.natAbs_neg, Int.natAbs_natCast]
  have hd : decide (-(x : Int) < 0) = !decide (x = 0) := by
    by_cases h : x = 0
    · subst h; rfl
    · rw [decide_eq_false h, decide_eq_true (by omega)]; rfl
  rw [hd]
  generalize hn : (limbs x).length = n at *
  generalize decide (x = 0) = b at *
  have HN := Lib.hid hn; clear hn hd
  go_enter Tryz.func171, Tryz.ntmps171
  go_wp2_with fail
  have e0 : ((w.alloc (Obj.cells #[Value.slice ao n c] 93)).alloc (Obj.cells #[Value.bool false, Value.slice none 0 0] 95)).cell? ⟨w.heap.size + 1, 0, none⟩ = some (Value.bool false) := by go_cell
  have e1 : ((w.alloc (Obj.cells #[Value.slice ao n c] 93)).alloc (Obj.cells #[Value.bool false, Value.slice none 0 0] 95)).cell? ⟨w.heap.size + 1, 1, none⟩ = some (Value.slice none 0 0) := by go_cell
  have e2 : ((w.alloc (Obj.cells #[Value.slice ao n c] 93)).alloc (Obj.cells #[Value.bool false, Value.slice none 0 0] 95)).cell? ⟨w.heap.size, 0, none⟩ = some (Value.slice ao n c) := by go_cell
  have f0 : ((w.alloc (Obj.cells #[Value.slice ao n c] 93)).alloc (Obj.cells #[Value.bool false, Value.slice none 0 0] 95)).frozen? ⟨w.heap.size + 1, 0, none⟩ = false := by go_cell
  have f1 : ((w.alloc (Obj.cells #[Value.slice ao n c] 93)).alloc (Obj.cells #[Value.bool false, Value.slice none 0 0] 95)).frozen? ⟨w.heap.size + 1, 1, none⟩ = false := by go_cell
  have hb : Below w.heap.size w ((w.alloc (Obj.cells #[Value.slice ao n c] 93)).alloc (Obj.cells #[Value.bool false, Value.slice none 0 0] 95)) := by go_grown
  have hs : w.heap.size + 1 < ((w.alloc (Obj.cells #[Value.slice ao n c] 93)).alloc (Obj.cells #[Value.bool false, Value.slice none 0 0] 95)).heap.size := by simp
  generalize (w.alloc (Obj.cells #[Value.slice ao n c] 93)).alloc (Obj.cells #[Value.bool false, Value.slice none 0 0] 95) = W at *
  have MB : MBox w W (w.heap.size) (.slice ao n c) := ⟨hs, e2, e0, e1, f0, f1, hb⟩
  clear e0 e1 e2 f0 f1 hb hs
  have MD := MB.mono ((Below.refl _ _).drew)
  have j0 := MB.c0; have j1 := MB.r0; have j2 := MB.r1; have j3 := MB.f0; have j4 := MB.f1
  go_region_with (go_at_call 151; refine (HC.out _ MD.below).mono ?_; rintro e w4 ⟨rfl, hb4⟩; have M4 := MD.mono hb4; have k0 := M4.c0; have k1 := M4.r0; have k2 := M4.r1; have k3 := M4.f0; have k4 := M4.f1)
  all_goals
    have ST := stored (w := w) (V := w4) (Nat.le_succ w.heap.size) k1 k2 M4.below (!b) ao n c
    have q0 := ST.q0; have q1 := ST.q1
    go_wp2
    refine bodyPost_ret (v := .agg #[.bool (!b), .slice ao n c]) (by simp [results, Tryz.results171, go_sem, q0, q1]) rfl ?_
    exact ⟨_, rfl, ⟨ao, c, rfl, ST.row _ _ _ (HR.out.mono M4.below)⟩, ST.below⟩
end Go.Proofs.YtbadibbdoljjhaaGreatDoor

/-
  Plain mathematics of a subtraction over limbs.
-/
namespace Go.Proofs.YtbadibbdoljjhaaGreatDoor

/-- What the loops of a subtraction keep: x0 the limbs before, x now, t times y is taken away. -/
structure SubInv (x0 x y : List Nat) (t i q : Nat) : Prop where
  len : x.length = x0.length
  small : Small x
  rest : x.drop i = x0.drop i
  borrow : q ≤ t
  eq : val (x0.take i) + q * 1000000000 ^ i = val (x.take i) + t * val (y.take i)

theorem SubInv.start {x0 y : List Nat} {t : Nat} (hs : Small x0) : SubInv x0 x0 y t 0 0 :=
  ⟨rfl, hs, rfl, by omega, by simp [val]⟩

theorem getD_of_drop {a b : List Nat} {i : Nat} (h : a.drop i = b.drop i) : a.getD i 0 = b.getD i 0 := by
  have := congrArg (fun l => l[0]?) h
  simp only [List.getElem?_drop, Nat.add_zero] at this
  simp [List.getD_eq_getElem?_getD, this]

theorem drop_set_succ {a b : List Nat} {i v : Nat} (h : a.drop i = b.drop i) : (a.set i v).drop (i + 1) = b.drop (i + 1) := by
  rw [List.drop_set_of_lt (by omega)]
  have := congrArg (fun l => l.drop 1) h
  simpa [List.drop_drop, Nat.add_comm] using this

theorem SubInv.step {x0 x y : List Nat} {t i q : Nat} (h : SubInv x0 x y t i q) (hi : i < x0.length) (hy : Small y) :
    let p := q + t * y.getD i 0
    let low := p % 1000000000
    (x.getD i 0 < low → SubInv x0 (x.set i (x.getD i 0 + 1000000000 - low)) y t (i + 1) (p / 1000000000 + 1)) ∧
    (¬ x.getD i 0 < low → SubInv x0 (x.set i (x.getD i 0 - low)) y t (i + 1) (p / 1000000000)) := by
  intro p low
  have h1 := h.small.getD i; have h2 := hy.getD i; have h3 := h.borrow; have h4 := h.eq
  have e0 := getD_of_drop h.rest
  have hp : p ≤ t * 1000000000 := by
    have : t * y.getD i 0 ≤ t * 999999999 := Nat.mul_le_mul_left _ (by omega)
    show q + t * y.getD i 0 ≤ _
    omega
  have hd := Nat.div_add_mod p 1000000000
  have hlow : p % 1000000000 < 1000000000 := Nat.mod_lt _ (by decide)
  have hq1 : p / 1000000000 ≤ t := by omega
  have e1 : val (x0.take (i + 1)) = val (x0.take i) + x.getD i 0 * 1000000000 ^ i := by rw [val_take_getD, e0]
  have e2 : val (y.take (i + 1)) = val (y.take i) + y.getD i 0 * 1000000000 ^ i := val_take_getD y i
  have e3 : ∀ v, val ((x.set i v).take (i + 1)) = val (x.take i) + v * 1000000000 ^ i := fun v => val_set_take x i v (by rw [h.len]; exact hi)
  have e4 : p * 1000000000 ^ i = q * 1000000000 ^ i + t * (y.getD i 0 * 1000000000 ^ i) := by
    show (q + t * y.getD i 0) * _ = _
    grind
  have hlowe : low = p % 1000000000 := rfl
  clear_value p low
  constructor
  · intro hlt
    refine ⟨by simp [h.len], h.small.set _ _ (by omega), drop_set_succ h.rest, by omega, ?_⟩
    rw [e1, e2, e3, Nat.pow_succ, Nat.mul_add]
    generalize 1000000000 ^ i = P at *
    generalize x.getD i 0 = a at *
    obtain ⟨r, hr⟩ : ∃ r, a + 1000000000 = low + r := ⟨a + 1000000000 - low, by omega⟩
    have e5 : a + 1000000000 - low = r := by omega
    rw [e5]
    have e6 : (a + 1000000000) * P = (low + r) * P := by rw [hr]
    have e7 : (1000000000 * (p / 1000000000) + p % 1000000000) * P = p * P := by rw [hd]
    rw [hlowe] at e6
    generalize p / 1000000000 = u at *
    generalize p % 1000000000 = v at *
    grind
  · intro hlt
    refine ⟨by simp [h.len], h.small.set _ _ (by omega), drop_set_succ h.rest, by omega, ?_⟩
    rw [e1, e2, e3, Nat.pow_succ, Nat.mul_add]
    generalize 1000000000 ^ i = P at *
    generalize x.getD i 0 = a at *
    obtain ⟨r, hr⟩ : ∃ r, a = low + r := ⟨a - low, by omega⟩
    have e5 : a - low = r := by omega
    rw [e5]
    have e6 : a * P = (low + r) * P := by rw [hr]
    have e7 : (1000000000 * (p / 1000000000) + p % 1000000000) * P = p * P := by rw [hd]
    rw [hlowe] at e6
    generalize p / 1000000000 = u at *
    generalize p % 1000000000 = v at *
    grind

/-- The second loop: what is missing is taken from the limbs above y. -/
theorem SubInv.carry {x0 x y : List Nat} {t i q : Nat} (h : SubInv x0 x y t i q) (hi : i < x0.length) (hyi : y.length ≤ i) (ht : t < 1000000000) (hq : 0 < q) :
    (x.getD i 0 < q → SubInv x0 (x.set i (x.getD i 0 + 1000000000 - q)) y t (i + 1) 1) ∧
    (¬ x.getD i 0 < q → SubInv x0 (x.set i (x.getD i 0 - q)) y t (i + 1) 0) := by
  have h1 := h.small.getD i; have h3 := h.borrow; have h4 := h.eq
  have e0 := getD_of_drop h.rest
  have e1 : val (x0.take (i + 1)) = val (x0.take i) + x.getD i 0 * 1000000000 ^ i := by rw [val_take_getD, e0]
  have e2 : y.take (i + 1) = y.take i := by rw [List.take_of_length_le (by omega), List.take_of_length_le (by omega)]
  have e3 : ∀ v, val ((x.set i v).take (i + 1)) = val (x.take i) + v * 1000000000 ^ i := fun v => val_set_take x i v (by rw [h.len]; exact hi)
  constructor
  · intro hlt
    refine ⟨by simp [h.len], h.small.set _ _ (by omega), drop_set_succ h.rest, by omega, ?_⟩
    rw [e1, e2, e3, Nat.pow_succ]
    generalize 1000000000 ^ i = P at *
    generalize x.getD i 0 = a at *
    obtain ⟨r, hr⟩ : ∃ r, a + 1000000000 = q + r := ⟨a + 1000000000 - q, by omega⟩
    have e5 : a + 1000000000 - q = r := by omega
    rw [e5]
    have e6 : (a + 1000000000) * P = (q + r) * P := by rw [hr]
    grind
  · intro hlt
    refine ⟨by simp [h.len], h.small.set _ _ (by omega), drop_set_succ h.rest, by omega, ?_⟩
    rw [e1, e2, e3, Nat.pow_succ]
    generalize 1000000000 ^ i = P at *
    generalize x.getD i 0 = a at *
    obtain ⟨r, hr⟩ : ∃ r, a = q + r := ⟨a - q, by omega⟩
    have e5 : a - q = r := by omega
    rw [e5]
    have e6 : a * P = (q + r) * P := by rw [hr]
    grind

/-- With nothing missing the rest is as it was. -/
theorem SubInv.still {x0 x y : List Nat} {t i : Nat} (h : SubInv x0 x y t i 0) (hi : i ≤ x0.length) (hyi : y.length ≤ i) :
    val x0 = val x + t * val y := by
  have h4 := h.eq
  rw [val_split x0 i hi, val_split x i (by rw [h.len]; exact hi), ← h.rest]
  rw [List.take_of_length_le (l := y) hyi] at h4
  omega

theorem SubInv.done {x0 x y : List Nat} {t q : Nat} (h : SubInv x0 x y t x0.length q) (hyi : y.length ≤ x0.length) :
    val x0 + q * 1000000000 ^ x0.length = val x + t * val y := by
  have h4 := h.eq
  rwa [List.take_of_length_le (l := y) hyi, List.take_of_length_le (Nat.le_refl _), List.take_of_length_le (by rw [h.len]; exact Nat.le_refl _)] at h4

theorem set_mid (a x c : List Nat) (i v : Nat) (hi : i < x.length) : (a ++ x ++ c).set (a.length + i) v = a ++ x.set i v ++ c := by
  rw [List.append_assoc, List.set_append_right _ _ (by omega), List.append_assoc]
  congr 1
  rw [show a.length + i - a.length = i by omega, List.set_append_left _ _ hi]
theorem getD_mid (a x c : List Nat) (i : Nat) (hi : i < x.length) : (a ++ x ++ c).getD (a.length + i) 0 = x.getD i 0 := by
  have h1 : a.length + i < (a ++ x ++ c).length := by simp; omega
  rw [getD_lt _ _ h1, getD_lt _ _ hi]
  simp [hi]

end Go.Proofs.YtbadibbdoljjhaaGreatDoor

namespace Go.Proofs.YtbadibbdoljjhaaGreatDoor
open Go Go.Proofs Go.RowKit

/-- What 'subtract' leaves: the limbs of its window, and what is missing. -/
def Subtracted (w : World) (b : Nat) (A X Y C : List Nat) (t : Nat) (e : Ending) (w' : World) : Prop :=
  ∃ q X', e = .returned (.int .u64 (q : Nat)) ∧ Blk w' b (A ++ X' ++ C) ∧ X'.length = X.length ∧ Small X' ∧ q ≤ t ∧ val X + q * 1000000000 ^ X.length = val X' + t * val Y ∧ w.grownBy w' (some b)

theorem prod_bound (t y : Nat) (ht : t < 1000000000) (hy : y < 1000000000) : 0 ≤ (t : Int) * (y : Int) ∧ (t : Int) * (y : Int) ≤ 999999998000000001 := by
  have h : t * y ≤ 999999999 * 999999999 := Nat.mul_le_mul (by omega) (by omega)
  have e : (t : Int) * (y : Int) = ((t * y : Nat) : Int) := by rw [Int.natCast_mul]
  rw [e]; omega

set_option maxHeartbeats 4000000 in
theorem subtract_any (b c d n m : Nat) (ap : Option Addr) (A X Y C : List Nat) (t : Nat) (w : World) (hb : Blk w b (A ++ X ++ C)) (hX : Small X) (hy : RowAt w ap d Y) (hY : Small Y)
    (hyb : ∀ b' o, ap = some ⟨b', o, none⟩ → Y ≠ [] → b' ≠ b) (hn : X.length = n) (hm : Y.length = m) (hmn : m ≤ n) (hnb : n ≤ 1000000000000) (ht : t < 1000000000) :
    Calls Tryz.prog 215 #[.slice (some ⟨b, A.length, none⟩) n c, .slice ap m d, .int .u64 t] w (Subtracted w b A X Y C t) := by
  have HB := Lib.hid hb; have HX := Lib.hid hX; have HYR := Lib.hid hy; have HY := Lib.hid hY; have HYB := Lib.hid hyb; have HN := Lib.hid hn; have HM := Lib.hid hm; have HMN := Lib.hid hmn
  clear hb hX hy hY hyb hn hm hmn
  generalize ho : A.length = o
  have HO := Lib.hid ho; clear ho
  go_enter Tryz.func215, Tryz.ntmps215
  go_wp2_with fail
  go_loopw [7, 15] (fun qv iv wr => ∃ (i q : Nat) (S : List Nat), i ≤ m ∧ iv = .int .i64 i ∧ qv = .int .u64 q ∧ Blk wr b (A ++ S ++ C) ∧ SubInv X S Y t i q ∧ w.grownBy wr (some b)) (fun _ iv _ => m - (intOf iv).toNat)
  case atStart => exact ⟨0, 0, X, Nat.zero_le _, rfl, rfl, HB.out, SubInv.start HX.out, grown_refl _ _⟩
  case round =>
    obtain ⟨i, q, S, hi, rfl, rfl, hbl, hinv, hgr⟩ := hrel
    have hq := hinv.borrow
    have HBL := Lib.hid hbl; have HI := Lib.hid hinv; have HG := Lib.hid hgr; clear hbl hinv hgr
    by_cases him : i < m
    · have hmn := HMN.out
      have hin : i < S.length := by have := HI.out.len; have := HN.out; omega
      have hYne : Y ≠ [] := fun h => by have := HM.out; rw [h] at this; simp at this; omega
      obtain ⟨b', o', rfl⟩ := HYR.out.addr hYne
      have hne := HYB.out b' o' rfl hYne
      have cy : wr.cell? ⟨b', o' + i, none⟩ = some (.int .u32 (Y.getD i 0 : Nat)) := gcell HG.out (HYR.out.get i (by rw [HM.out]; exact him)) (by simp; exact hne)
      have cx : wr.cell? ⟨b, o + i, none⟩ = some (.int .u32 (S.getD i 0 : Nat)) := by rw [← HO.out]; have := HBL.out.cell (A.length + i) (by simp; omega); rwa [getD_mid _ _ _ _ hin] at this
      have fx : wr.frozen? ⟨b, o + i, none⟩ = false := HBL.out.frozen _
      have hstep := HI.out.step (by have := HI.out.len; omega) HY.out
      have hset : ∀ v, Blk (wr.setCell ⟨b, o + i, none⟩ (.int .u32 ((v : Nat) : Int))) b (A ++ S.set i v ++ C) := fun v => by have := HBL.out.set (A.length + i) v; rw [set_mid _ _ _ _ _ hin, HO.out] at this; exact this
      have hset2 : ∀ v v', Blk ((wr.setCell ⟨b, o + i, none⟩ (.int .u32 ((v : Nat) : Int))).setCell ⟨b, o + i, none⟩ (.int .u32 ((v' : Nat) : Int))) b (A ++ S.set i v' ++ C) := fun v v' => by
        have := (hset v).set (A.length + i) v'; rw [set_mid _ _ _ _ _ (by simpa using hin), HO.out, List.set_set] at this; exact this
      have hy1 := HY.out.getD i
      have hx1 := HI.out.small.getD i
      generalize Y.getD i 0 = y at *
      generalize S.getD i 0 = a at *
      have hp := prod_bound t y ht hy1
      obtain ⟨hp1, hp2⟩ := hp
      have HST := Lib.hid hstep; have HSE := Lib.hid hset; have HSE2 := Lib.hid hset2
      have hil : i < n := by omega
      have HHN := Lib.hid hne
      clear hstep hset hset2 hne hYne hin hmn
      by_cases hlt : (a : Int) < ((q : Int) + (t : Int) * (y : Int)) % 1000000000
      · have e1 : a + 1000000000 - (q + t * y) % 1000000000 = a + 1000000000 - (q + t * y) % 1000000000 := rfl
        have ev : (((a + 1000000000 - (q + t * y) % 1000000000 : Nat)) : Int) = (a : Int) + 1000000000 - ((q : Int) + (t : Int) * (y : Int)) % 1000000000 := by
          have : ((q + t * y : Nat) : Int) = (q : Int) + (t : Int) * (y : Int) := by rw [Int.natCast_add, Int.natCast_mul]
          omega
        have eq : (((q + t * y) / 1000000000 + 1 : Nat) : Int) = ((q : Int) + (t : Int) * (y : Int)) / 1000000000 + 1 := by
          have : ((q + t * y : Nat) : Int) = (q : Int) + (t : Int) * (y : Int) := by rw [Int.natCast_add, Int.natCast_mul]
          omega
        have hlt' : a < (q + t * y) % 1000000000 := by
          have : ((q + t * y : Nat) : Int) = (q : Int) + (t : Int) * (y : Int) := by rw [Int.natCast_add, Int.natCast_mul]
          omega
        have h2 := HSE2.out (a + 1000000000) (a + 1000000000 - (q + t * y) % 1000000000)
        rw [ev] at h2
        have H2 := Lib.hid h2; have EQ := Lib.hid eq; have HL := Lib.hid hlt'
        clear e1 ev eq hlt' h2
        go_wp2
        go_roundw
        case rel => exact ⟨i + 1, _, _, by omega, by go_num, by rw [← EQ.out], H2.out, HST.out.1 HL.out, grown_set (grown_set HG.out _ _) _ _⟩
        case measure => simp [intOf]; omega
      · have ev : (((a - (q + t * y) % 1000000000 : Nat)) : Int) = (a : Int) - ((q : Int) + (t : Int) * (y : Int)) % 1000000000 := by
          have : ((q + t * y : Nat) : Int) = (q : Int) + (t : Int) * (y : Int) := by rw [Int.natCast_add, Int.natCast_mul]
          omega
        have eq : (((q + t * y) / 1000000000 : Nat) : Int) = ((q : Int) + (t : Int) * (y : Int)) / 1000000000 := by
          have : ((q + t * y : Nat) : Int) = (q : Int) + (t : Int) * (y : Int) := by rw [Int.natCast_add, Int.natCast_mul]
          omega
        have hlt' : ¬ a < (q + t * y) % 1000000000 := by
          have : ((q + t * y : Nat) : Int) = (q : Int) + (t : Int) * (y : Int) := by rw [Int.natCast_add, Int.natCast_mul]
          omega
        have h2 := HSE.out (a - (q + t * y) % 1000000000)
        rw [ev] at h2
        have H2 := Lib.hid h2; have EQ := Lib.hid eq; have HL := Lib.hid hlt'
        clear ev eq hlt' h2
        go_wp2
        go_roundw
        case rel => exact ⟨i + 1, _, _, by omega, by go_num, by rw [← EQ.out], H2.out, HST.out.2 HL.out, grown_set HG.out _ _⟩
        case measure => simp [intOf]; omega
    · have hi0 : i = m := by omega
      subst hi0
      go_wp2_with fail
      go_loopw [7, 11] (fun qv iv wr => ∃ (j q : Nat) (S : List Nat), i ≤ j ∧ j ≤ n ∧ iv = .int .i64 j ∧ qv = .int .u64 q ∧ Blk wr b (A ++ S ++ C) ∧ SubInv X S Y t j q ∧ w.grownBy wr (some b)) (fun _ iv _ => n - (intOf iv).toNat)
      case atStart => exact ⟨i, q, S, Nat.le_refl _, HMN.out, rfl, rfl, HBL.out, HI.out, HG.out⟩
      case round =>
        clear HBL HI HG hq
        obtain ⟨j, q, S, hij, hj, rfl, rfl, hbl, hinv, hgr⟩ := hrel
        have hq := hinv.borrow
        have HBL := Lib.hid hbl; have HI := Lib.hid hinv; have HG := Lib.hid hgr; have HIJ := Lib.hid hij; clear hbl hinv hgr hij
        by_cases hjn : j < n
        · by_cases hq0 : 0 < q
          · have hin : j < S.length := by have := HI.out.len; have := HN.out; omega
            have cx : wr.cell? ⟨b, o + j, none⟩ = some (.int .u32 (S.getD j 0 : Nat)) := by rw [← HO.out]; have := HBL.out.cell (A.length + j) (by simp; omega); rwa [getD_mid _ _ _ _ hin] at this
            have fx : wr.frozen? ⟨b, o + j, none⟩ = false := HBL.out.frozen _
            have hstep := HI.out.carry (by have := HI.out.len; omega) (by rw [HM.out]; exact HIJ.out) ht hq0
            have hset : ∀ v, Blk (wr.setCell ⟨b, o + j, none⟩ (.int .u32 ((v : Nat) : Int))) b (A ++ S.set j v ++ C) := fun v => by have := HBL.out.set (A.length + j) v; rw [set_mid _ _ _ _ _ hin, HO.out] at this; exact this
            have hset2 : ∀ v v', Blk ((wr.setCell ⟨b, o + j, none⟩ (.int .u32 ((v : Nat) : Int))).setCell ⟨b, o + j, none⟩ (.int .u32 ((v' : Nat) : Int))) b (A ++ S.set j v' ++ C) := fun v v' => by
              have := (hset v).set (A.length + j) v'; rw [set_mid _ _ _ _ _ (by simpa using hin), HO.out, List.set_set] at this; exact this
            have hx1 := HI.out.small.getD j
            generalize S.getD j 0 = a at *
            have HST := Lib.hid hstep; have HSE := Lib.hid hset; have HSE2 := Lib.hid hset2
            clear hstep hset hset2 hin
            by_cases hlt : a < q
            · have ev : (((a + 1000000000 - q : Nat)) : Int) = (a : Int) + 1000000000 - (q : Int) := by omega
              have h2 := HSE2.out (a + 1000000000) (a + 1000000000 - q)
              rw [ev] at h2
              have H2 := Lib.hid h2
              clear ev h2
              go_wp2
              go_roundw
              case rel => exact ⟨j + 1, 1, _, by have := HIJ.out; omega, by omega, by go_num, rfl, H2.out, HST.out.1 hlt, grown_set (grown_set HG.out _ _) _ _⟩
              case measure => simp [intOf]; omega
            · have ev : (((a - q : Nat)) : Int) = (a : Int) - (q : Int) := by omega
              have h2 := HSE.out (a - q)
              rw [ev] at h2
              have H2 := Lib.hid h2
              clear ev h2
              go_wp2
              go_roundw
              case rel => exact ⟨j + 1, 0, _, by have := HIJ.out; omega, by omega, by go_num, rfl, H2.out, HST.out.2 hlt, grown_set HG.out _ _⟩
              case measure => simp [intOf]; omega
          · have hq1 : q = 0 := by omega
            subst hq1
            have hs := HI.out.still (by rw [HN.out]; omega) (by rw [HM.out]; exact HIJ.out)
            have HS := Lib.hid hs; clear hs hq0 hq
            go_wp2
            go_ret
            exact ⟨0, S, rfl, HBL.out, HI.out.len, HI.out.small, Nat.zero_le _, by rw [Nat.zero_mul, Nat.add_zero]; exact HS.out, HG.out⟩
        · have hj1 : j = n := by omega
          subst hj1
          have hs : val X + q * 1000000000 ^ X.length = val S + t * val Y := by
            have h1 := HI.out
            rw [← HN.out] at h1
            exact h1.done (by rw [HM.out, HN.out]; exact HIJ.out)
          have HS := Lib.hid hs; clear hs
          go_wp2
          go_ret
          exact ⟨q, S, rfl, HBL.out, HI.out.len, HI.out.small, hq, HS.out, HG.out⟩
end Go.Proofs.YtbadibbdoljjhaaGreatDoor

namespace Go.Proofs.YtbadibbdoljjhaaGreatDoor
open Go Go.Proofs Go.RowKit

theorem addr_add (b o j : Nat) : (⟨b, o, none⟩ : Addr).add j = ⟨b, o + j, none⟩ := by unfold Addr.add; split <;> simp_all

theorem news_at {w : World} {b o c : Nat} {X : List Nat} (h : RowAt w (some ⟨b, o, none⟩) c X) : ∀ j u, (cellsOf X)[j]? = some u → w.cell? ((⟨b, o, none⟩ : Addr).add j) = some u := by
  intro j u hj
  have hjl : j < X.length := by
    have := (List.getElem?_eq_some_iff.1 hj).1
    rwa [cellsOf_length] at this
  rw [cellsOf_get X j hjl] at hj
  injection hj with hj
  rw [← hj, addr_add]
  exact h.get j hjl

/-- A slice that owns at least one limb. -/
theorem owns_shape {w : World} {base n : Nat} {v : Value} {l : List Nat} (h : w.ownsRow base 159 1 v n (cellsOf l)) (hn : 0 < n) : ∃ g cap, v = .slice (some ⟨g, 0, none⟩) n cap := by
  rcases h.2 with ⟨_, h0⟩ | ⟨g, cap, cur, hv, _⟩
  · omega
  · exact ⟨g, cap, hv⟩

theorem subtract_nil (ao ap : Option Addr) (c d : Nat) (t : Nat) (w : World) :
    Calls Tryz.prog 215 #[.slice ao 0 c, .slice ap 0 d, .int .u64 t] w fun e w' => e = .returned (.int .u64 0) ∧ w = w' := by
  go_enter Tryz.func215, Tryz.ntmps215
  go_wp2_with fail
  go_rounds 1
  go_rounds 1
  go_ret
  exact ⟨rfl, rfl⟩

theorem sub_exact {X X' Y : List Nat} {q : Nat} (h : val X + q * 1000000000 ^ X.length = val X' + 1 * val Y) (hl : X'.length = X.length) (hs : Small X') (hle : val Y ≤ val X) : val X' = val X - val Y := by
  have h1 := val_lt hs
  rw [hl] at h1
  rcases Nat.eq_zero_or_pos q with rfl | hq
  · omega
  · have : 1 * 1000000000 ^ X.length ≤ q * 1000000000 ^ X.length := Nat.mul_le_mul_right _ hq
    omega

/-- A subtraction of y from a copy of x, not less, in a block of its own. -/
theorem subtract_once (b c d n m : Nat) (ap : Option Addr) (X Y : List Nat) (w : World) (hb : Blk w b X) (hX : Small X) (hy : RowAt w ap d Y) (hY : Small Y)
    (hyb : ∀ b' o, ap = some ⟨b', o, none⟩ → Y ≠ [] → b' ≠ b) (hn : X.length = n) (hm : Y.length = m) (hmn : m ≤ n) (hnb : n ≤ 1000000000000) (hle : val Y ≤ val X) :
    Calls Tryz.prog 215 #[.slice (some ⟨b, 0, none⟩) n c, .slice ap m d, .int .u64 1] w fun e w' => ∃ X' q, e = .returned (.int .u64 q) ∧ Blk w' b X' ∧ X'.length = n ∧ Small X' ∧ val X' = val X - val Y ∧ w.grownBy w' (some b) := by
  refine (subtract_any b c d n m ap [] X Y [] 1 w (by simpa using hb) hX hy hY hyb hn hm hmn hnb (by decide)).mono fun e w' h => ?_
  obtain ⟨q, X', rfl, h1, h2, h3, _, h5, h6⟩ := h
  exact ⟨X', q, rfl, by simpa using h1, by rw [h2, hn], h3, sub_exact h5 h2 h3 hle, h6⟩

set_option maxHeartbeats 4000000 in
theorem dist_loop (x y : Nat) (vx vy : Value) (w : World) (args : Array Value) (hx : NumAt w vx x) (hy : NumAt w vy y) (hbig : (limbs x).length ≤ 1000000000000) (hne : limbs x ≠ []) (hle : y ≤ x)
    (hargs : (args = #[vx, vy] ∧ ¬ x < y) ∨ (args = #[vy, vx] ∧ y < x)) :
    Calls Tryz.prog 177 args w (RetN (x - y) w) := by
  obtain ⟨i0, hi, hz0, hz1, hz2⟩ := info_parts infoU32
  have CA : ¬ x < y → ∃ r : Int, decide (r < 0) = false ∧ ∀ W : World, Below w.heap.size w W → Calls Tryz.prog 193 #[vx, vy] W fun e w' => e = .returned (.int .i64 r) ∧ Below W.heap.size W w' := fun h =>
    ⟨cmpN x y, by (unfold cmpN; rw [if_neg h]; split <;> decide), fun W hW => compare_any x y vx vy W (hx.mono hW) (hy.mono hW)⟩
  have CB : y < x → ∃ r : Int, decide (r < 0) = true ∧ ∀ W : World, Below w.heap.size w W → Calls Tryz.prog 193 #[vy, vx] W fun e w' => e = .returned (.int .i64 r) ∧ Below W.heap.size W w' := fun h =>
    ⟨cmpN y x, by (unfold cmpN; rw [if_pos h]; decide), fun W hW => compare_any y x vy vx W (hy.mono hW) (hx.mono hW)⟩
  obtain ⟨ao, c, rfl, hx⟩ := hx
  obtain ⟨ap, d, rfl, hy⟩ := hy
  have hsx := limbs_small x; have hsy := limbs_small y
  have e1 := val_limbs x; have e2 := val_limbs y
  have hmn := limbs_length_mono hle
  obtain ⟨bx, ox, rfl⟩ := hx.addr hne
  generalize limbs x = X at *
  generalize limbs y = Y at *
  have hxb := hx.block hne
  have HX := Lib.hid hx; have HY := Lib.hid hy
  have h1 := hx.1; have h2 := hx.2.1; have h3 := hy.1; have h4 := hy.2.1
  generalize hn : X.length = n at *
  generalize hm : Y.length = m at *
  have hcl : (cellsOf X).length = n * 1 := by rw [cellsOf_length, hn, Nat.mul_one]
  have HCL := Lib.hid hcl; clear hcl
  have hn0 : 0 < n := by rw [← hn]; exact List.length_pos_iff.2 hne
  have HN := Lib.hid hn; have HM := Lib.hid hm; have HE1 := Lib.hid e1; have HE2 := Lib.hid e2; have HSX := Lib.hid hsx; have HSY := Lib.hid hsy
  have HMN := Lib.hid hmn; have HLE := Lib.hid hle
  have HH := Lib.hid (And.intro h1 (And.intro h2 (And.intro h3 h4)))
  have HCA := Lib.hid CA; have HCB := Lib.hid CB
  clear hn hm e1 e2 hx hy hsx hsy h1 h2 h3 h4 hmn hle CA CB hne
  rcases hargs with ⟨rfl, hlt⟩ | ⟨rfl, hlt⟩
  · obtain ⟨r, hr, C1⟩ := HCA.out hlt
    have HC := Lib.hid C1; clear C1 HCA HCB
    have HLT := Lib.hid hlt; clear hlt
    go_enter Tryz.func177, Tryz.ntmps177
    go_wp2_with fail
    have A := (three_new w (Value.slice (some { block := bx, off := ox }) n c) (Value.slice ap m d) (Value.slice none 0 0) 93 93 93).boxes
    generalize (((w.alloc (Obj.cells #[Value.slice (some { block := bx, off := ox }) n c] 93)).alloc (Obj.cells #[Value.slice ap m d] 93)).alloc (Obj.cells #[Value.slice none 0 0] 93)) = V0 at A ⊢
    refine (HC.out _ A.below).mono ?_
    rintro e w1 ⟨rfl, hb1⟩
    have B := A.mono hb1
    clear A hb1
    have k1 := B.c1; have k2 := B.c2; have k3 := B.c3; have g1 := B.f1; have g2 := B.f2
    go_wp2_with (at_builtin; refine wpList_append_own _ rfl _ _ 91 rfl (w.heap.size + 1 + 1 + 1) 159 i0 (.int .u32 0) 1 4 Tryz.underlying91 hi hz0 hz1 hz2 rfl (by decide) _ _ _ rfl (World.ownsRow_nil _ _ _ _) ⟨bx, ox, none⟩ n c (cellsOf X) rfl HCL.out ?c1 ?c2 ?c3 ?c4 ?c5 ?_)
    case c1 => exact news_at (HX.out.mono B.below)
    case c2 => intro u hu; obtain ⟨z, _, rfl⟩ := List.mem_map.1 hu; rfl
    case c3 => unfold maxLen; omega
    case c4 => omega
    case c5 => have := B.lt; omega
    intro v' w2 hown hgrow _
    obtain ⟨g, cap, rfl⟩ := owns_shape hown hn0
    obtain ⟨hbk, -, hc1, hc2, hbg⟩ := blk_of_owns hown
    have B2 := B.mono (below_of_grown hgrow)
    have k4 := B2.c2; have k5 := B2.c3; have g5 := B2.f3
    have hgne : w.heap.size + 1 + 1 < g := by omega
    have HOWN := Lib.hid hbk; have HGR := Lib.hid hgrow
    clear hown hgrow hbk k1 k2 k3 g1 g2 HC HCL
    go_wp2_with fail
    refine (subtract_once g cap d n m ap X Y w2 HOWN.out HSX.out (HY.out.mono B2.below) HSY.out (fun b' o he hy0 => ?_) HN.out HM.out HMN.out hbig ?_).mono ?_
    · have hy2 := HY.out
      rw [he] at hy2
      have := hy2.block hy0
      omega
    · rw [HE1.out, HE2.out]; exact HLE.out
    rintro e w3 ⟨X', q, rfl, hbk3, hl3, hs3, hv3, hg3⟩
    have B3 := B2.grown hg3 hgne
    have k6 := B3.c3; have g6 := B3.f3
    have HB3 := Lib.hid hbk3; have HL3 := Lib.hid hl3; have HS3 := Lib.hid hs3; have HV3 := Lib.hid hv3
    clear hbk3 hl3 hs3 hv3 hg3 k4 k5 g5
    go_wp2_with fail
    refine (trimmed_at X' n _ _ _ HL3.out (HB3.out.row (by rw [HL3.out]; exact hc1) hc2) HS3.out).mono ?_
    rintro e w4 ⟨v, rfl, hv, hb4⟩
    obtain ⟨ao', c', rfl, hr4⟩ := hv
    have B4 := B3.mono hb4
    have k7 := B4.c3; have g7 := B4.f3
    clear k6 g6
    go_wp2
    refine bodyPost_ret (v := .agg #[.slice ao' (limbs (val X')).length c']) (by simp [results, Tryz.results177, go_sem, cellSet k7]) rfl ?_
    have e0 : val X' = x - y := by rw [HV3.out, HE1.out, HE2.out]
    rw [e0] at hr4 ⊢
    exact ⟨_, rfl, ⟨ao', c', rfl, hr4.box k7 _⟩, B4.below.setCell (p := ⟨w.heap.size + 1 + 1, 0, none⟩) (by simp; omega) _⟩
  · obtain ⟨r, hr, C1⟩ := HCB.out hlt
    have HC := Lib.hid C1; clear C1 HCA HCB
    have HLT := Lib.hid hlt; clear hlt
    go_enter Tryz.func177, Tryz.ntmps177
    go_wp2_with fail
    have A := (three_new w (Value.slice ap m d) (Value.slice (some { block := bx, off := ox }) n c) (Value.slice none 0 0) 93 93 93).boxes
    generalize (((w.alloc (Obj.cells #[Value.slice ap m d] 93)).alloc (Obj.cells #[Value.slice (some { block := bx, off := ox }) n c] 93)).alloc (Obj.cells #[Value.slice none 0 0] 93)) = V0 at A ⊢
    refine (HC.out _ A.below).mono ?_
    rintro e w1 ⟨rfl, hb1⟩
    have B := A.mono hb1
    clear A hb1
    have k1 := B.c1; have k2 := B.c2; have k3 := B.c3; have g1 := B.f1; have g2 := B.f2
    go_wp2_with (at_builtin; refine wpList_append_own _ rfl _ _ 91 rfl (w.heap.size + 1 + 1 + 1) 159 i0 (.int .u32 0) 1 4 Tryz.underlying91 hi hz0 hz1 hz2 rfl (by decide) _ _ _ rfl (World.ownsRow_nil _ _ _ _) ⟨bx, ox, none⟩ n c (cellsOf X) rfl HCL.out ?c1 ?c2 ?c3 ?c4 ?c5 ?_)
    case c1 => exact news_at (HX.out.mono (B.swap (Value.slice (some { block := bx, off := ox }) n c) (Value.slice ap m d)).below)
    case c2 => intro u hu; obtain ⟨z, _, rfl⟩ := List.mem_map.1 hu; rfl
    case c3 => unfold maxLen; omega
    case c4 => omega
    case c5 => have := B.lt; simp [World.setCell]; omega
    intro v' w2 hown hgrow _
    obtain ⟨g, cap, rfl⟩ := owns_shape hown hn0
    obtain ⟨hbk, -, hc1, hc2, hbg⟩ := blk_of_owns hown
    have B2 := (B.swap (Value.slice (some { block := bx, off := ox }) n c) (Value.slice ap m d)).mono (below_of_grown hgrow)
    have k4 := B2.c2; have k5 := B2.c3; have g5 := B2.f3
    have hgne : w.heap.size + 1 + 1 < g := by omega
    have HOWN := Lib.hid hbk; have HGR := Lib.hid hgrow
    clear hown hgrow hbk k1 k2 k3 g1 g2 HC HCL
    go_wp2_with fail
    refine (subtract_once g cap d n m ap X Y w2 HOWN.out HSX.out (HY.out.mono B2.below) HSY.out (fun b' o he hy0 => ?_) HN.out HM.out HMN.out hbig ?_).mono ?_
    · have hy2 := HY.out
      rw [he] at hy2
      have := hy2.block hy0
      omega
    · rw [HE1.out, HE2.out]; exact HLE.out
    rintro e w3 ⟨X', q, rfl, hbk3, hl3, hs3, hv3, hg3⟩
    have B3 := B2.grown hg3 hgne
    have k6 := B3.c3; have g6 := B3.f3
    have HB3 := Lib.hid hbk3; have HL3 := Lib.hid hl3; have HS3 := Lib.hid hs3; have HV3 := Lib.hid hv3
    clear hbk3 hl3 hs3 hv3 hg3 k4 k5 g5
    go_wp2_with fail
    refine (trimmed_at X' n _ _ _ HL3.out (HB3.out.row (by rw [HL3.out]; exact hc1) hc2) HS3.out).mono ?_
    rintro e w4 ⟨v, rfl, hv, hb4⟩
    obtain ⟨ao', c', rfl, hr4⟩ := hv
    have B4 := B3.mono hb4
    have k7 := B4.c3; have g7 := B4.f3
    clear k6 g6
    go_wp2
    refine bodyPost_ret (v := .agg #[.slice ao' (limbs (val X')).length c']) (by simp [results, Tryz.results177, go_sem, cellSet k7]) rfl ?_
    have e0 : val X' = x - y := by rw [HV3.out, HE1.out, HE2.out]
    rw [e0] at hr4 ⊢
    exact ⟨_, rfl, ⟨ao', c', rfl, hr4.box k7 _⟩, B4.below.setCell (p := ⟨w.heap.size + 1 + 1, 0, none⟩) (by simp; omega) _⟩
set_option maxHeartbeats 1000000 in
theorem dist_none (ap : Option Addr) (d : Nat) (w : World) :
    Calls Tryz.prog 177 #[.agg #[.slice none 0 0], .agg #[.slice ap 0 d]] w (RetN 0 w) := by
  obtain ⟨i0, hi, hz0, hz1, hz2⟩ := info_parts infoU32
  go_enter Tryz.func177, Tryz.ntmps177
  go_wp2_with fail
  have A := (three_new w (Value.slice none 0 0) (Value.slice ap 0 d) (Value.slice none 0 0) 93 93 93).boxes
  generalize (((w.alloc (Obj.cells #[Value.slice none 0 0] 93)).alloc (Obj.cells #[Value.slice ap 0 d] 93)).alloc (Obj.cells #[Value.slice none 0 0] 93)) = V0 at A ⊢
  refine (compare_nil none ap 0 d V0).mono ?_
  rintro e w1 ⟨rfl, hb1⟩
  have B := A.mono hb1
  clear A hb1
  have k1 := B.c1; have k2 := B.c2; have k3 := B.c3; have g3 := B.f3
  go_wp2_with (first
    | (at_builtin; refine wpList_append_own_none rfl _ _ 91 rfl (w.heap.size + 1 + 1 + 1) 159 i0 1 Tryz.underlying91 hi _ _ _ rfl (World.ownsRow_nil _ _ _ _) rfl ?_)
    | (go_at_call 215; refine (subtract_nil _ _ _ _ 1 _).mono ?_; rintro e w' ⟨rfl, rfl⟩)
    | (go_at_call 199; refine (trimmed_nil _ _ _).mono ?_; rintro e w2 ⟨rfl, hb2⟩; have B2 := B.mono hb2; have k4 := B2.c3; have g4 := B2.f3; clear k1 k2 k3 g3))
  refine bodyPost_ret (v := .agg #[.slice none 0 0]) (by simp [results, Tryz.results177, go_sem, cellSet k4]) rfl ?_
  refine ⟨_, rfl, ⟨none, 0, by rw [limbs_zero]; rfl, ?_⟩, B2.below.setCell (p := ⟨w.heap.size + 1 + 1, 0, none⟩) (by simp; omega) _⟩
  rw [limbs_zero]; exact ⟨Nat.le_refl _, by decide, .inl ⟨rfl, fun _ => rfl⟩⟩

set_option maxHeartbeats 1000000 in
theorem dist_some (ad : Addr) (c : Nat) (ap : Option Addr) (d : Nat) (w : World) :
    Calls Tryz.prog 177 #[.agg #[.slice (some ad) 0 c], .agg #[.slice ap 0 d]] w (RetN 0 w) := by
  obtain ⟨i0, hi, hz0, hz1, hz2⟩ := info_parts infoU32
  go_enter Tryz.func177, Tryz.ntmps177
  go_wp2_with fail
  have A := (three_new w (Value.slice (some ad) 0 c) (Value.slice ap 0 d) (Value.slice none 0 0) 93 93 93).boxes
  generalize (((w.alloc (Obj.cells #[Value.slice (some ad) 0 c] 93)).alloc (Obj.cells #[Value.slice ap 0 d] 93)).alloc (Obj.cells #[Value.slice none 0 0] 93)) = V0 at A ⊢
  refine (compare_nil (some ad) ap c d V0).mono ?_
  rintro e w1 ⟨rfl, hb1⟩
  have B := A.mono hb1
  clear A hb1
  have k1 := B.c1; have k2 := B.c2; have k3 := B.c3; have g3 := B.f3
  go_wp2_with (at_builtin; refine wpList_append_own _ rfl _ _ 91 rfl (w.heap.size + 1 + 1 + 1) 159 i0 (.int .u32 0) 1 4 Tryz.underlying91 hi hz0 hz1 hz2 rfl (by decide) _ _ _ rfl (World.ownsRow_nil _ _ _ _) ad 0 c [] rfl rfl ?c1 ?c2 ?c3 ?c4 ?c5 ?_)
  case c1 => intro j u hj; simp at hj
  case c2 => intro u hu; cases hu
  case c3 => decide
  case c4 => decide
  case c5 => have := B.lt; omega
  intro v' w2 _ hgrow hnil
  subst hnil
  have B2 := B.mono (below_of_grown hgrow)
  clear hgrow k1 k2 k3 g3
  have k1 := B2.c1; have k2 := B2.c2; have k3 := B2.c3; have g3 := B2.f3
  go_wp2_with (first
    | (go_at_call 215; refine (subtract_nil _ _ _ _ 1 _).mono ?_; rintro e w' ⟨rfl, rfl⟩)
    | (go_at_call 199; refine (trimmed_nil _ _ _).mono ?_; rintro e w3 ⟨rfl, hb2⟩; have B3 := B2.mono hb2; have k4 := B3.c3; have g4 := B3.f3; clear k1 k2 k3 g3))
  refine bodyPost_ret (v := .agg #[.slice none 0 0]) (by simp [results, Tryz.results177, go_sem, cellSet k4]) rfl ?_
  refine ⟨_, rfl, ⟨none, 0, by rw [limbs_zero]; rfl, ?_⟩, B3.below.setCell (p := ⟨w.heap.size + 1 + 1, 0, none⟩) (by simp; omega) _⟩
  rw [limbs_zero]; exact ⟨Nat.le_refl _, by decide, .inl ⟨rfl, fun _ => rfl⟩⟩

theorem dist_any (x y : Nat) (vx vy : Value) (w : World) (hx : NumAt w vx x) (hy : NumAt w vy y) (h1 : (limbs x).length ≤ 1000000000000) (h2 : (limbs y).length ≤ 1000000000000) :
    Calls Tryz.prog 177 #[vx, vy] w (RetN (if x < y then y - x else x - y) w) := by
  by_cases h : x < y
  · rw [if_pos h]
    exact dist_loop y x vy vx w _ hy hx h2 (fun c => by have := limbs_nil_iff.1 c; omega) (by omega) (.inr ⟨rfl, h⟩)
  · rw [if_neg h]
    by_cases h0 : limbs x = []
    · have ex := limbs_nil_iff.1 h0
      have ey : y = 0 := by omega
      subst ex; subst ey
      obtain ⟨ao, c, rfl, hr⟩ := hx
      obtain ⟨ap, d, rfl, -⟩ := hy
      have hc := hr.2.2
      rw [limbs_zero] at hc ⊢
      cases ao with
      | none =>
        have hc0 : c = 0 := by
          rcases hc with ⟨_, hc⟩ | ⟨b, off, he, _⟩
          · exact hc rfl
          · cases he
        subst hc0
        exact dist_none ap d w
      | some ad => exact dist_some ad c ap d w
    · exact dist_loop x y vx vy w _ hx hy h1 h0 (by omega) (.inl ⟨rfl, h⟩)

end Go.Proofs.YtbadibbdoljjhaaGreatDoor
