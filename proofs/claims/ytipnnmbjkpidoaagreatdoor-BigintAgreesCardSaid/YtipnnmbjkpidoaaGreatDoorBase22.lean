import Derived.Test.YtipnnmbjkpidoaaGreatDoorBase20
import Derived.Test.YtipnnmbjkpidoaaGreatDoorBase21

set_option linter.unusedVariables false
/-
  Plain mathematics of a guessed limb of a quotient.
-/
namespace Go.Proofs.YtipnnmbjkpidoaaGreatDoor

/-- x and y by their highest limbs; P is the weight of the limb x2. -/
structure Heads (x y top next head x2 P : Nat) : Prop where
  pos : 0 < P
  half : 500000000 ≤ top
  topB : top < 1000000000
  nextB : next < 1000000000
  x2B : x2 < 1000000000
  yl : (top * 1000000000 + next) * P ≤ y
  yu : y < (top * 1000000000 + next + 1) * P
  xl : (head * 1000000000 + x2) * P ≤ x
  xu : x < (head * 1000000000 + x2 + 1) * P
  lt : x < y * 1000000000

theorem Heads.ypos {x y top next head x2 P : Nat} (h : Heads x y top next head x2 P) : 0 < y := by
  have h1 := h.yl; have h2 := h.pos; have h3 := h.half
  have : 1 * 1 ≤ (top * 1000000000 + next) * P := Nat.mul_le_mul (by omega) h2
  omega

theorem Heads.head_lt {x y top next head x2 P : Nat} (h : Heads x y top next head x2 P) : head < (top + 1) * 1000000000 := by
  rcases Nat.lt_or_ge head ((top + 1) * 1000000000) with h1 | h1
  · exact h1
  · exfalso
    have a1 := h.xl; have a2 := h.yu; have a3 := h.lt; have a4 := h.nextB
    have b1 : ((top + 1) * 1000000000 * 1000000000) * P ≤ (head * 1000000000 + x2) * P := Nat.mul_le_mul_right _ (Nat.le_trans (Nat.mul_le_mul_right _ h1) (Nat.le_add_right _ _))
    have b2 : (top * 1000000000 + next + 1) * P ≤ ((top + 1) * 1000000000) * P := Nat.mul_le_mul_right _ (by omega)
    have b3 : ((top + 1) * 1000000000 * 1000000000) * P = ((top + 1) * 1000000000) * P * 1000000000 := by grind
    omega

theorem Heads.q_lt {x y top next head x2 P : Nat} (h : Heads x y top next head x2 P) : x / y < 1000000000 :=
  Nat.div_lt_of_lt_mul h.lt

/-- What the loop keeps. -/
structure GuessInv (x y top head g r : Nat) : Prop where
  eq : g * top + r = head
  ge : x / y ≤ g
  gB : g ≤ 1000000001
  rB : r < 2000000000

theorem head_aux (head top : Nat) (h : head < (top + 1) * 1000000000) (ht : 500000000 ≤ top) : head < top * 1000000002 := by
  rw [Nat.add_mul] at h
  have e : top * 1000000002 = top * 1000000000 + top * 2 := by rw [← Nat.mul_add]
  rw [e]; omega

theorem Heads.start {x y top next head x2 P : Nat} (h : Heads x y top next head x2 P) : GuessInv x y top head (head / top) (head % top) := by
  have ht := h.half
  have hh := h.head_lt
  have htB := h.topB
  refine ⟨by have := Nat.div_add_mod head top; rw [Nat.mul_comm]; exact this, ?_, ?_, by have := Nat.mod_lt head (show 0 < top by omega); omega⟩
  · refine (Nat.le_div_iff_mul_le (by omega)).2 ?_
    have h1 : x / y * y ≤ x := Nat.div_mul_le_self x y
    have h2 := h.yl; have h3 := h.xu; have h4 := h.x2B
    have h5 : x / y * ((top * 1000000000) * P) ≤ x / y * y := Nat.mul_le_mul_left _ (Nat.le_trans (Nat.mul_le_mul_right _ (by omega)) h2)
    have h6 : (head * 1000000000 + x2 + 1) * P ≤ ((head + 1) * 1000000000) * P := Nat.mul_le_mul_right _ (by omega)
    have h7 : x / y * ((top * 1000000000) * P) = (x / y * top) * (1000000000 * P) := by grind
    have h8 : ((head + 1) * 1000000000) * P = (head + 1) * (1000000000 * P) := by grind
    have h9 : (x / y * top) * (1000000000 * P) < (head + 1) * (1000000000 * P) := by omega
    have := Nat.lt_of_mul_lt_mul_right h9
    omega
  · have : head / top < 1000000002 := Nat.div_lt_of_lt_mul (head_aux head top hh ht)
    exact Nat.le_of_lt_succ this

theorem GuessInv.step {x y top next head x2 P g r : Nat} (h : Heads x y top next head x2 P) (k : GuessInv x y top head g r)
    (hr : r < 1000000000) (hc : 1000000000 ≤ g ∨ r * 1000000000 + x2 < g * next) : 0 < g ∧ GuessInv x y top head (g - 1) (r + top) := by
  have hq := h.q_lt
  have htB := h.topB
  have hg : x / y < g := by
    rcases hc with hc | hc
    · omega
    · refine (Nat.div_lt_iff_lt_mul h.ypos).2 ?_
      have h1 := h.yl; have h2 := h.xu; have h3 := k.eq
      have h4 : g * ((top * 1000000000 + next) * P) ≤ g * y := Nat.mul_le_mul_left _ h1
      have h5 : g * ((top * 1000000000 + next) * P) = ((g * top) * 1000000000 + g * next) * P := by grind
      have h6 : (head * 1000000000 + x2 + 1) * P ≤ ((g * top) * 1000000000 + g * next) * P := Nat.mul_le_mul_right _ (by omega)
      omega
  have hg0 : 0 < g := Nat.zero_lt_of_lt hg
  refine ⟨hg0, ⟨?_, Nat.le_sub_one_of_lt hg, by have := k.gB; omega, by omega⟩⟩
  have h3 := k.eq
  obtain ⟨g', rfl⟩ : ∃ g', g = g' + 1 := ⟨g - 1, by omega⟩
  rw [Nat.add_sub_cancel]
  rw [Nat.add_mul] at h3
  omega

theorem GuessInv.done {x y top next head x2 P g r : Nat} (h : Heads x y top next head x2 P) (k : GuessInv x y top head g r)
    (hc : ¬ r < 1000000000 ∨ (¬ 1000000000 ≤ g ∧ ¬ r * 1000000000 + x2 < g * next)) : x / y ≤ g ∧ g ≤ x / y + 1 ∧ g < 1000000000 := by
  have h3 := k.eq; have hh := h.head_lt; have ht := h.half; have htB := h.topB; have hn := h.nextB
  refine ⟨k.ge, ?_⟩
  rcases hc with hc | ⟨hc1, hc2⟩
  · have hgB : g < 1000000000 := by
      rcases Nat.lt_or_ge g 1000000000 with h1 | h1
      · exact h1
      · have : 1000000000 * top ≤ g * top := Nat.mul_le_mul_right _ h1
        omega
    have hle : g ≤ x / y := by
      refine (Nat.le_div_iff_mul_le h.ypos).2 ?_
      have h1 := h.yu; have h2 := h.xl
      have h4 : g * y ≤ g * ((top * 1000000000 + next + 1) * P) := Nat.mul_le_mul_left _ (by omega)
      have h5 : g * ((top * 1000000000 + next + 1) * P) ≤ g * ((top * 1000000000 + 1000000000) * P) := Nat.mul_le_mul_left _ (Nat.mul_le_mul_right _ (by omega))
      have h6 : g * ((top * 1000000000 + 1000000000) * P) = ((g * top) * 1000000000 + g * 1000000000) * P := by grind
      have h7 : ((g * top) * 1000000000 + g * 1000000000) * P ≤ (head * 1000000000 + x2) * P := Nat.mul_le_mul_right _ (by omega)
      omega
    exact ⟨Nat.le_succ_of_le hle, hgB⟩
  · refine ⟨?_, by omega⟩
    rcases Nat.eq_zero_or_pos g with h0 | h0
    · rw [h0]; exact Nat.zero_le _
    obtain ⟨g', rfl⟩ : ∃ g', g = g' + 1 := ⟨g - 1, by omega⟩
    have hle : g' ≤ x / y := by
      refine (Nat.le_div_iff_mul_le h.ypos).2 ?_
      have h1 := h.yu; have h2 := h.xl; have h8 := h.yl
      have h4 : (g' + 1) * y ≤ (g' + 1) * ((top * 1000000000 + next + 1) * P) := Nat.mul_le_mul_left _ (by omega)
      have h5 : (g' + 1) * ((top * 1000000000 + next + 1) * P) = (((g' + 1) * top) * 1000000000 + (g' + 1) * next) * P + (g' + 1) * P := by grind
      have h6 : (((g' + 1) * top) * 1000000000 + (g' + 1) * next) * P ≤ (head * 1000000000 + x2) * P := Nat.mul_le_mul_right _ (by omega)
      have h7 : (g' + 1) * P ≤ (top * 1000000000 + next) * P := Nat.mul_le_mul_right _ (by omega)
      have h9 : (g' + 1) * y = g' * y + y := by grind
      omega
    exact Nat.succ_le_succ hle

/-- The heads of numbers in limbs. -/
theorem heads_of {X Y : List Nat} {m : Nat} (hX : Small X) (hY : Small Y) (hx : X.length = m + 1) (hy : Y.length = m) (hm : 2 ≤ m)
    (ht : 500000000 ≤ Y.getD (m - 1) 0) (hlt : val X < val Y * 1000000000) :
    Heads (val X) (val Y) (Y.getD (m - 1) 0) (Y.getD (m - 2) 0) (X.getD m 0 * 1000000000 + X.getD (m - 1) 0) (X.getD (m - 2) 0) (1000000000 ^ (m - 2)) := by
  obtain ⟨k, rfl⟩ : ∃ k, m = k + 2 := ⟨m - 2, by omega⟩
  have ey : val Y = val (Y.take k) + Y.getD k 0 * 1000000000 ^ k + Y.getD (k + 1) 0 * 1000000000 ^ (k + 1) := by
    have : Y.take (k + 1 + 1) = Y := List.take_of_length_le (by omega)
    rw [← this, val_take_getD, val_take_getD, this]
  have ex : val X = val (X.take k) + X.getD k 0 * 1000000000 ^ k + X.getD (k + 1) 0 * 1000000000 ^ (k + 1) + X.getD (k + 2) 0 * 1000000000 ^ (k + 2) := by
    have : X.take (k + 1 + 1 + 1) = X := List.take_of_length_le (by omega)
    rw [← this, val_take_getD, val_take_getD, val_take_getD, this]
  have h1 := val_lt (hX.take k); have h2 := val_lt (hY.take k)
  rw [List.length_take, Nat.min_eq_left (by omega)] at h1 h2
  have e1 : k + 2 - 1 = k + 1 := by omega
  have e2 : k + 2 - 2 = k := by omega
  rw [e1] at ht ⊢
  rw [e2]
  have a1 : (Y.getD (k + 1) 0 * 1000000000 + Y.getD k 0) * 1000000000 ^ k = Y.getD k 0 * 1000000000 ^ k + Y.getD (k + 1) 0 * 1000000000 ^ (k + 1) := by rw [Nat.pow_succ]; grind
  have a2 : ((X.getD (k + 2) 0 * 1000000000 + X.getD (k + 1) 0) * 1000000000 + X.getD k 0) * 1000000000 ^ k = X.getD k 0 * 1000000000 ^ k + X.getD (k + 1) 0 * 1000000000 ^ (k + 1) + X.getD (k + 2) 0 * 1000000000 ^ (k + 2) := by
    rw [Nat.pow_succ, Nat.pow_succ]; grind
  have a3 : ∀ z P : Nat, (z + 1) * P = z * P + P := fun z P => by grind
  refine ⟨Nat.pow_pos (by decide), ht, hY.getD _, hY.getD _, hX.getD _, ?_, ?_, ?_, ?_, hlt⟩
  · rw [a1, ey]; omega
  · rw [a3, a1, ey]; omega
  · rw [a2, ex]; omega
  · rw [a3, a2, ex]; omega

end Go.Proofs.YtipnnmbjkpidoaaGreatDoor

namespace Go.Proofs.YtipnnmbjkpidoaaGreatDoor
open Go Go.Proofs Go.RowKit

/-- A guess of a limb of the quotient: right, or one too many. -/
def Guessed (q : Nat) (w : World) (e : Ending) (w' : World) : Prop :=
  ∃ g k : Nat, e = .returned (.int .u64 g) ∧ q ≤ g ∧ g ≤ q + 1 ∧ g < 1000000000 ∧ w' = w.drewN k

set_option maxHeartbeats 4000000 in
theorem guess_any (bx ox c b o d m : Nat) (X Y : List Nat) (w : World) (hx : RowAt w (some ⟨bx, ox, none⟩) c X) (hX : Small X) (hy : RowAt w (some ⟨b, o, none⟩) d Y) (hY : Small Y)
    (hn : X.length = m + 1) (hm : Y.length = m) (hm2 : 2 ≤ m) (hmb : m ≤ 1000000000000) (ht : 500000000 ≤ Y.getD (m - 1) 0) (hlt : val X < val Y * 1000000000) :
    Calls Tryz.prog 215 #[.slice (some ⟨bx, ox, none⟩) (m + 1) c, .slice (some ⟨b, o, none⟩) m d] w (Guessed (val X / val Y) w) := by
  have hh := heads_of hX hY hn hm hm2 ht hlt
  have c1 := hx.get m (by omega); have c2 := hx.get (m - 1) (by omega); have c3 := hx.get (m - 2) (by omega)
  have c4 := hy.get (m - 1) (by omega); have c5 := hy.get (m - 2) (by omega)
  have b1 := hX.getD m; have b2 := hX.getD (m - 1); have b3 := hX.getD (m - 2); have b4 := hY.getD (m - 1); have b5 := hY.getD (m - 2)
  generalize X.getD m 0 = x0 at *
  generalize X.getD (m - 1) 0 = x1 at *
  generalize X.getD (m - 2) 0 = x2 at *
  generalize Y.getD (m - 1) 0 = top at *
  generalize Y.getD (m - 2) 0 = next at *
  generalize 1000000000 ^ (m - 2) = P at *
  have hst := hh.start
  have HH := Lib.hid hh; have HS := Lib.hid hst
  have eh : ((x0 * 1000000000 + x1 : Nat) : Int) = (x0 : Int) * 1000000000 + (x1 : Int) := by omega
  have eq : (((x0 * 1000000000 + x1) / top : Nat) : Int) = ((x0 : Int) * 1000000000 + (x1 : Int)) / (top : Int) := by rw [Int.natCast_ediv, eh]
  have er : (((x0 * 1000000000 + x1) % top : Nat) : Int) = ((x0 : Int) * 1000000000 + (x1 : Int)) % (top : Int) := by rw [Int.natCast_emod, eh]
  have EQ := Lib.hid eq; have ER := Lib.hid er
  have ht1 : 1 ≤ top := by omega
  clear hh hst hx hX hy hY hn hm ht hlt eq er eh
  go_enter Tryz.func215, Tryz.ntmps215
  go_wp2_with fail
  go_quiet (fail)
  go_wp2_with fail
  go_quiet (fail)
  go_wp2_with fail
  go_quiet (fail)
  go_wp2_with fail
  clear c1 c2 c4 c5 b1 b2
  go_loop [8, 9] (fun gv rv => ∃ g r : Nat, gv = .int .u64 g ∧ rv = .int .u64 r ∧ GuessInv (val X) (val Y) top (x0 * 1000000000 + x1) g r) (fun gv _ => (intOf gv).toNat)
  case atStart => exact ⟨_, _, by rw [← EQ.out], by rw [← ER.out], HS.out⟩
  case round =>
    obtain ⟨g, r, rfl, rfl, hinv⟩ := hrel
    have hg := hinv.gB; have hrb := hinv.rB
    have hgt : g * next ≤ 1000000001 * 1000000000 := Nat.mul_le_mul hg (by omega)
    have egt : ((g * next : Nat) : Int) = (g : Int) * (next : Int) := Int.natCast_mul ..
    have hp1 : 0 ≤ (g : Int) * (next : Int) := by rw [← egt]; omega
    have hp2 : (g : Int) * (next : Int) ≤ 1000000001000000000 := by rw [← egt]; omega
    have HI := Lib.hid hinv; have EG := Lib.hid egt
    clear hinv hgt egt
    by_cases hr : r < 1000000000
    · have hr' : decide ((r : Int) < 1000000000) = true := by simp; omega
      have HR := Lib.hid hr
      by_cases hgB : 1000000000 ≤ g
      · have hs := HI.out.step HH.out hr (.inl hgB)
        have hg0 := hs.1
        have HS2 := Lib.hid hs.2
        have hg' : decide ((1000000000 : Int) ≤ (g : Int)) = true := by simp; omega
        clear hs hgB hr
        go_wp2
        go_round
        case rel => exact ⟨g - 1, by omega, r + top, by omega, HS2.out⟩
        case measure => simp [intOf]; omega
      · have hg' : decide ((1000000000 : Int) ≤ (g : Int)) = false := by simp; omega
        by_cases hc : (r : Int) * 1000000000 + (x2 : Int) < (g : Int) * (next : Int)
        · have hs := HI.out.step HH.out hr (.inr (by have := EG.out; omega))
          have hg0 := hs.1
          have HS2 := Lib.hid hs.2
          have hc' : decide ((r : Int) * 1000000000 + (x2 : Int) < (g : Int) * (next : Int)) = true := by simp [hc]
          clear hs hgB hr hc
          go_wp2
          go_round
          case rel => exact ⟨g - 1, by omega, r + top, by omega, HS2.out⟩
          case measure => simp [intOf]; omega
        · have hd := HI.out.done HH.out (.inr ⟨hgB, by have := EG.out; omega⟩)
          have HD := Lib.hid hd
          have hc' : decide ((r : Int) * 1000000000 + (x2 : Int) < (g : Int) * (next : Int)) = false := by simp; omega
          clear hd hgB hr hc
          go_wp2
          go_ret
          exact ⟨g, _, rfl, HD.out.1, HD.out.2.1, HD.out.2.2, rfl⟩
    · have hd := HI.out.done HH.out (.inl hr)
      have HD := Lib.hid hd
      have hr' : decide ((r : Int) < 1000000000) = false := by simp; omega
      clear hd hr
      go_wp2
      go_ret
      exact ⟨g, _, rfl, HD.out.1, HD.out.2.1, HD.out.2.2, rfl⟩
end Go.Proofs.YtipnnmbjkpidoaaGreatDoor
