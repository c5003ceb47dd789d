/-
  surveyorref08.Sign.
-/
import Derived.Test.YtmogmneaomndeaaDoorLexM
import Derived.BigQuiet
import Derived.Deep.QuietTactic
set_option linter.unusedSimpArgs false
set_option linter.unusedVariables false
namespace Go.Proofs.YtmogmneaomndeaaDoor
open Go Go.Proofs Go.RowKit

theorem sgIn : ∀ j, j < 18 → decide (cls (byteAt (⟨#[123, 125, 40, 41, 91, 93, 44, 59, 58, 46, 61, 60, 62, 43, 45, 42, 47, 37]⟩ : ByteArray) j) = 5) = true := by decide +kernel
theorem sgAll : ∀ b, b < 256 → cls b = 5 → ∃ j, j < 18 ∧ byteAt (⟨#[123, 125, 40, 41, 91, 93, 44, 59, 58, 46, 61, 60, 62, 43, 45, 42, 47, 37]⟩ : ByteArray) j = b := by decide +kernel
theorem take_two : ∀ (l : List UInt8) (h : 2 ≤ l.length), l.take 2 = [l[0]'(by omega), l[1]'(by omega)]
  | [], h => by simp at h
  | [x], h => by simp at h
  | x :: y :: r, h => rfl
theorem ls_two {s : ByteArray} (h : 2 ≤ s.size) : lsB ((bytes s).take 2) = (decide (byteAt s 1 = 61) && (((decide (byteAt s 0 = 58) || decide (byteAt s 0 = 33)) || decide (byteAt s 0 = 60)) || decide (byteAt s 0 = 62))) := by
  have h0 := byteAt_idx (s := s) (j := 0) (by omega)
  have h1 := byteAt_idx (s := s) (j := 1) (by omega)
  have e := take_two (bytes s) (by rw [bytes_length]; exact h)
  rw [e, h0, h1]
  generalize (bytes s)[0]'_ = x
  generalize (bytes s)[1]'_ = y
  have hk : ∀ (z : UInt8) (n : Nat), n < 256 → decide (z.toNat = n) = (z == UInt8.ofNat n) := fun z n hn => by
    rw [Bool.eq_iff_iff, decide_eq_true_iff, beq_iff_eq]
    constructor
    · intro h; rw [← h]; simp
    · intro h; rw [h]; simp; omega
  rw [hk y 61 (by decide), hk x 58 (by decide), hk x 33 (by decide), hk x 60 (by decide), hk x 62 (by decide)]
  unfold lsB
  show ([x, y] == [58, 61] || [x, y] == [33, 61] || [x, y] == [60, 61] || [x, y] == [62, 61]) = ((y == 61) && (((x == 58) || (x == 33)) || (x == 60) || (x == 62)))
  have hb : ∀ a b : UInt8, ([x, y] == [a, b]) = ((x == a) && (y == b)) := fun a b => by rw [Bool.eq_iff_iff]; simp
  rw [hb, hb, hb, hb]
  cases (y == 61) <;> cases (x == 58) <;> cases (x == 33) <;> cases (x == 60) <;> cases (x == 62) <;> rfl

set_option maxHeartbeats 1000000 in
theorem refSign_any (s : ByteArray) (hs : s.size ≤ 9223372036854775807) (w : World) :
    Calls Tryd.prog 44 #[.string s] w fun e w' => e = .returned (.int .i64 (sl (bytes s) : Nat)) ∧ Below w.heap.size w w' := by
  obtain ⟨r, hr⟩ : ∃ r, sl (bytes s) = r := ⟨_, rfl⟩
  rw [hr]
  unfold sl at hr
  rw [bytes_length, show ((bytes s).getD 0 0).toNat = byteAt s 0 from rfl] at hr
  by_cases hz : s.size = 0
  · obtain rfl := empty_of_size hz
    have hr0 : r = 0 := by rw [← hr, if_neg (by rintro ⟨h, -⟩; omega), if_neg (by rintro ⟨h, -⟩; omega)]
    subst hr0
    clear hr hz hs
    go_enter Tryd.func44, Tryd.ntmps44
    go_wp2_with fail
    go_loopw [4] (fun iv wr => ∃ j : Nat, j ≤ 18 ∧ iv = .int .i64 (j : Int) ∧ Below w.heap.size w wr) (fun iv _ => 18 - (intOf iv).toNat)
    case atStart => exact ⟨0, Nat.zero_le _, rfl, Below.refl _ _⟩
    case round =>
      obtain ⟨j, hj, rfl, hB⟩ := hrel
      by_cases hlt : j < 18
      · have hj1 : (j : Int) < 18 := by omega
        have hj2 : decide ((j : Int) < 18) = true := by rw [decide_eq_true_iff]; omega
        have ej : wrap64 ((j : Int) + 1) = (j : Int) + 1 := by unfold wrap64; omega
        have HB := Lib.hid hB; clear hB
        go_wp2_with fail
        go_quiet (fail)
        go_wp2
        go_roundw
        case rel => exact ⟨j + 1, by omega, by first | exact congrArg (Value.int .i64) (Int.natCast_add j 1).symm | exact congrArg (Value.int .i64) (ej.trans (Int.natCast_add j 1).symm), below_drewN HB.out _⟩
        case measure => first | (show 18 - ((j : Int) + 1).toNat < 18 - ((j : Int)).toNat; omega) | (rw [ej]; show 18 - ((j : Int) + 1).toNat < 18 - ((j : Int)).toNat; omega)
      · obtain rfl : j = 18 := by omega
        have HB := Lib.hid hB; clear hB hlt hj
        go_wp2
        go_ret
        exact ⟨rfl, HB.out⟩
  have hp : 0 < s.size := by omega
  have hb := byteAt_get s 0 hp
  have hbl := byteAt_lt s 0
  have g2 : (0 : Int) < (s.size : Int) := by omega
  have gp : decide ((0 : Int) < (s.size : Int)) = true := by rw [decide_eq_true_iff]; omega
  have gp2 : decide (0 < s.size) = true := by rw [decide_eq_true_iff]; omega
  have hk2 := fun h : 2 ≤ s.size => ls_two h
  have hone : ¬ (2 ≤ s.size ∧ lsB ((bytes s).take 2) = true) → (cls (byteAt s 0) = 5 → r = 1) ∧ (¬ cls (byteAt s 0) = 5 → r = 0) := fun h => by
    rw [if_neg h] at hr
    exact ⟨fun h5 => by rw [← hr, if_pos ⟨hp, h5⟩], fun h5 => by rw [← hr, if_neg (fun q => h5 q.2)]⟩
  have htwo : 2 ≤ s.size ∧ lsB ((bytes s).take 2) = true → r = 2 := fun h => by rw [← hr, if_pos h]
  clear hr
  by_cases h2 : 2 ≤ s.size
  · have g3 : decide ((2 : Int) ≤ (s.size : Int)) = true := by rw [decide_eq_true_iff]; omega
    have g4 : (1 : Int) < (s.size : Int) := by omega
    have hb1 := byteAt_get s 1 (by omega)
    have hl := hk2 h2
    rw [hl] at hone htwo
    generalize byteAt s 0 = b0 at *
    generalize byteAt s 1 = b1 at *
    have a1 : ((b1 : Int) == 61) = decide (b1 = 61) := bI b1 61
    have c1 : ((b0 : Int) == 58) = decide (b0 = 58) := bI b0 58
    have c2 : ((b0 : Int) == 33) = decide (b0 = 33) := bI b0 33
    have c3 : ((b0 : Int) == 60) = decide (b0 = 60) := bI b0 60
    have c4 : ((b0 : Int) == 62) = decide (b0 = 62) := bI b0 62
    have H2S := Lib.hid h2; have HBL := Lib.hid hbl; have HZ := Lib.hid hz; have HP := Lib.hid hp
    generalize decide (b1 = 61) = p at *
    generalize decide (b0 = 58) = q1 at *
    generalize decide (b0 = 33) = q2 at *
    generalize decide (b0 = 60) = q3 at *
    generalize decide (b0 = 62) = q4 at *
    have KO := Lib.hid hone; have KT := Lib.hid htwo
    clear hone htwo hk2 hl
    cases p
    · have hsn := KO.out (by simp)
      have HSN := Lib.hid hsn.2
      have HSL : Hid (decide (cls b0 = 5) = true → r = 1) := Lib.hid (fun h => hsn.1 (of_decide_eq_true h))
      clear hsn KO KT hbl hz
      go_enter Tryd.func44, Tryd.ntmps44
      go_wp2_with fail
      generalize hSG : (⟨#[123, 125, 40, 41, 91, 93, 44, 59, 58, 46, 61, 60, 62, 43, 45, 42, 47, 37]⟩ : ByteArray) = SG at *
      have hsz : SG.size = 18 := by rw [← hSG]; rfl
      have hfb : ∀ j, j < 18 → decide (cls (byteAt SG j) = 5) = true := by rw [← hSG]; exact sgIn
      have hfa : ∀ b, b < 256 → cls b = 5 → ∃ j, j < 18 ∧ byteAt SG j = b := by rw [← hSG]; exact sgAll
      have HSZ := Lib.hid hsz; have HFB := Lib.hid hfb; have HFA := Lib.hid hfa
      clear hSG hfb hfa hsz
      go_loopw [4] (fun iv wr => ∃ j : Nat, j ≤ 18 ∧ iv = .int .i64 (j : Int) ∧ (∀ i, i < j → byteAt SG i ≠ b0) ∧ Below w.heap.size w wr) (fun iv _ => 18 - (intOf iv).toNat)
      case atStart => exact ⟨0, Nat.zero_le _, rfl, fun i h => absurd h (Nat.not_lt_zero _), Below.refl _ _⟩
      case round =>
        obtain ⟨j, hj, rfl, hg, hB⟩ := hrel
        by_cases hlt : j < 18
        · have hjs : j < SG.size := by rw [HSZ.out]; exact hlt
          have hbj := byteAt_get SG j hjs
          have hj0 : (0 : Int) ≤ (j : Int) := by omega
          have hj1 : (j : Int) < (SG.size : Int) := by omega
          have ej : wrap64 ((j : Int) + 1) = (j : Int) + 1 := by unfold wrap64; omega
          have hfb := HFB.out j hlt
          have hstep : byteAt SG j ≠ b0 → ∀ i, i < j + 1 → byteAt SG i ≠ b0 := fun h i hi => by
            rcases Nat.lt_or_ge i j with q | q
            · exact hg i q
            · obtain rfl : i = j := by omega
              exact h
          generalize byteAt SG j = c at *
          by_cases hc : c = b0
          · subst hc
            have hr : decide (cls c = 5) = true := hfb
            have HR := Lib.hid (HSL.out hr); have HB := Lib.hid hB
            clear hr hstep hg hj hfb hB
            go_wp2_with fail
            go_quiet (fail)
            go_wp2
            go_ret
            exact ⟨by rw [HR.out]; rfl, below_drewN HB.out _⟩
          · have hg2 := hstep hc
            have nc : ((b0 : Int) == (c : Int)) = false := by rw [beq_eq_false_iff_ne]; omega
            have HG2 := Lib.hid hg2; have HC := Lib.hid hc; have HB := Lib.hid hB
            clear hstep hg hg2 hc hj hfb hB
            go_wp2_with fail
            go_quiet (fail)
            go_wp2
            go_roundw
            case rel => exact ⟨j + 1, by omega, by first | exact congrArg (Value.int .i64) (Int.natCast_add j 1).symm | exact congrArg (Value.int .i64) (ej.trans (Int.natCast_add j 1).symm), HG2.out, below_drewN HB.out _⟩
            case measure => first | (show 18 - ((j : Int) + 1).toNat < 18 - ((j : Int)).toNat; omega) | (rw [ej]; show 18 - ((j : Int) + 1).toNat < 18 - ((j : Int)).toNat; omega)
        · obtain rfl : j = 18 := by omega
          have hne : ¬ cls b0 = 5 := fun h => by
            obtain ⟨i, hi, e⟩ := HFA.out b0 HBL.out h
            exact hg i hi e
          have HR := Lib.hid (HSN.out hne); have HB := Lib.hid hB
          have hge : decide ((18 : Int) < (SG.size : Int)) = false := by rw [HSZ.out]; decide
          clear hg hne hB hlt hj
          go_wp2
          go_ret
          exact ⟨by rw [HR.out]; rfl, HB.out⟩
    · cases q1
      · cases q2
        · cases q3
          · cases q4
            · have hsn := KO.out (by simp)
              have HSN := Lib.hid hsn.2
              have HSL : Hid (decide (cls b0 = 5) = true → r = 1) := Lib.hid (fun h => hsn.1 (of_decide_eq_true h))
              clear hsn KO KT hbl hz
              go_enter Tryd.func44, Tryd.ntmps44
              go_wp2_with fail
              generalize hSG : (⟨#[123, 125, 40, 41, 91, 93, 44, 59, 58, 46, 61, 60, 62, 43, 45, 42, 47, 37]⟩ : ByteArray) = SG at *
              have hsz : SG.size = 18 := by rw [← hSG]; rfl
              have hfb : ∀ j, j < 18 → decide (cls (byteAt SG j) = 5) = true := by rw [← hSG]; exact sgIn
              have hfa : ∀ b, b < 256 → cls b = 5 → ∃ j, j < 18 ∧ byteAt SG j = b := by rw [← hSG]; exact sgAll
              have HSZ := Lib.hid hsz; have HFB := Lib.hid hfb; have HFA := Lib.hid hfa
              clear hSG hfb hfa hsz
              go_loopw [4] (fun iv wr => ∃ j : Nat, j ≤ 18 ∧ iv = .int .i64 (j : Int) ∧ (∀ i, i < j → byteAt SG i ≠ b0) ∧ Below w.heap.size w wr) (fun iv _ => 18 - (intOf iv).toNat)
              case atStart => exact ⟨0, Nat.zero_le _, rfl, fun i h => absurd h (Nat.not_lt_zero _), Below.refl _ _⟩
              case round =>
                obtain ⟨j, hj, rfl, hg, hB⟩ := hrel
                by_cases hlt : j < 18
                · have hjs : j < SG.size := by rw [HSZ.out]; exact hlt
                  have hbj := byteAt_get SG j hjs
                  have hj0 : (0 : Int) ≤ (j : Int) := by omega
                  have hj1 : (j : Int) < (SG.size : Int) := by omega
                  have ej : wrap64 ((j : Int) + 1) = (j : Int) + 1 := by unfold wrap64; omega
                  have hfb := HFB.out j hlt
                  have hstep : byteAt SG j ≠ b0 → ∀ i, i < j + 1 → byteAt SG i ≠ b0 := fun h i hi => by
                    rcases Nat.lt_or_ge i j with q | q
                    · exact hg i q
                    · obtain rfl : i = j := by omega
                      exact h
                  generalize byteAt SG j = c at *
                  by_cases hc : c = b0
                  · subst hc
                    have hr : decide (cls c = 5) = true := hfb
                    have HR := Lib.hid (HSL.out hr); have HB := Lib.hid hB
                    clear hr hstep hg hj hfb hB
                    go_wp2_with fail
                    go_quiet (fail)
                    go_wp2
                    go_ret
                    exact ⟨by rw [HR.out]; rfl, below_drewN HB.out _⟩
                  · have hg2 := hstep hc
                    have nc : ((b0 : Int) == (c : Int)) = false := by rw [beq_eq_false_iff_ne]; omega
                    have HG2 := Lib.hid hg2; have HC := Lib.hid hc; have HB := Lib.hid hB
                    clear hstep hg hg2 hc hj hfb hB
                    go_wp2_with fail
                    go_quiet (fail)
                    go_wp2
                    go_roundw
                    case rel => exact ⟨j + 1, by omega, by first | exact congrArg (Value.int .i64) (Int.natCast_add j 1).symm | exact congrArg (Value.int .i64) (ej.trans (Int.natCast_add j 1).symm), HG2.out, below_drewN HB.out _⟩
                    case measure => first | (show 18 - ((j : Int) + 1).toNat < 18 - ((j : Int)).toNat; omega) | (rw [ej]; show 18 - ((j : Int) + 1).toNat < 18 - ((j : Int)).toNat; omega)
                · obtain rfl : j = 18 := by omega
                  have hne : ¬ cls b0 = 5 := fun h => by
                    obtain ⟨i, hi, e⟩ := HFA.out b0 HBL.out h
                    exact hg i hi e
                  have HR := Lib.hid (HSN.out hne); have HB := Lib.hid hB
                  have hge : decide ((18 : Int) < (SG.size : Int)) = false := by rw [HSZ.out]; decide
                  clear hg hne hB hlt hj
                  go_wp2
                  go_ret
                  exact ⟨by rw [HR.out]; rfl, HB.out⟩
            · have H2 := Lib.hid (KT.out ⟨H2S.out, rfl⟩); clear KO KT hbl hz
              go_enter Tryd.func44, Tryd.ntmps44
              go_wp2
              go_ret
              exact ⟨by rw [H2.out]; rfl, Below.refl _ _⟩
          · have H2 := Lib.hid (KT.out ⟨H2S.out, by simp⟩); clear KO KT hbl hz
            go_enter Tryd.func44, Tryd.ntmps44
            go_wp2
            go_ret
            exact ⟨by rw [H2.out]; rfl, Below.refl _ _⟩
        · have H2 := Lib.hid (KT.out ⟨H2S.out, by simp⟩); clear KO KT hbl hz
          go_enter Tryd.func44, Tryd.ntmps44
          go_wp2
          go_ret
          exact ⟨by rw [H2.out]; rfl, Below.refl _ _⟩
      · have H2 := Lib.hid (KT.out ⟨H2S.out, by simp⟩); clear KO KT hbl hz
        go_enter Tryd.func44, Tryd.ntmps44
        go_wp2
        go_ret
        exact ⟨by rw [H2.out]; rfl, Below.refl _ _⟩
  · have g3 : decide ((2 : Int) ≤ (s.size : Int)) = false := by rw [decide_eq_false_iff_not]; omega
    generalize byteAt s 0 = b0 at *
    have hsn := hone (fun h => h2 h.1)
    have HSN := Lib.hid hsn.2
    have HSL : Hid (decide (cls b0 = 5) = true → r = 1) := Lib.hid (fun h => hsn.1 (of_decide_eq_true h))
    have HBL := Lib.hid hbl; have HZ := Lib.hid hz; have HP := Lib.hid hp; have HH2 := Lib.hid h2
    clear hsn hone htwo hk2 h2 hbl hz
    go_enter Tryd.func44, Tryd.ntmps44
    go_wp2_with fail
    generalize hSG : (⟨#[123, 125, 40, 41, 91, 93, 44, 59, 58, 46, 61, 60, 62, 43, 45, 42, 47, 37]⟩ : ByteArray) = SG at *
    have hsz : SG.size = 18 := by rw [← hSG]; rfl
    have hfb : ∀ j, j < 18 → decide (cls (byteAt SG j) = 5) = true := by rw [← hSG]; exact sgIn
    have hfa : ∀ b, b < 256 → cls b = 5 → ∃ j, j < 18 ∧ byteAt SG j = b := by rw [← hSG]; exact sgAll
    have HSZ := Lib.hid hsz; have HFB := Lib.hid hfb; have HFA := Lib.hid hfa
    clear hSG hfb hfa hsz
    go_loopw [4] (fun iv wr => ∃ j : Nat, j ≤ 18 ∧ iv = .int .i64 (j : Int) ∧ (∀ i, i < j → byteAt SG i ≠ b0) ∧ Below w.heap.size w wr) (fun iv _ => 18 - (intOf iv).toNat)
    case atStart => exact ⟨0, Nat.zero_le _, rfl, fun i h => absurd h (Nat.not_lt_zero _), Below.refl _ _⟩
    case round =>
      obtain ⟨j, hj, rfl, hg, hB⟩ := hrel
      by_cases hlt : j < 18
      · have hjs : j < SG.size := by rw [HSZ.out]; exact hlt
        have hbj := byteAt_get SG j hjs
        have hj0 : (0 : Int) ≤ (j : Int) := by omega
        have hj1 : (j : Int) < (SG.size : Int) := by omega
        have ej : wrap64 ((j : Int) + 1) = (j : Int) + 1 := by unfold wrap64; omega
        have hfb := HFB.out j hlt
        have hstep : byteAt SG j ≠ b0 → ∀ i, i < j + 1 → byteAt SG i ≠ b0 := fun h i hi => by
          rcases Nat.lt_or_ge i j with q | q
          · exact hg i q
          · obtain rfl : i = j := by omega
            exact h
        generalize byteAt SG j = c at *
        by_cases hc : c = b0
        · subst hc
          have hr : decide (cls c = 5) = true := hfb
          have HR := Lib.hid (HSL.out hr); have HB := Lib.hid hB
          clear hr hstep hg hj hfb hB
          go_wp2_with fail
          go_quiet (fail)
          go_wp2
          go_ret
          exact ⟨by rw [HR.out]; rfl, below_drewN HB.out _⟩
        · have hg2 := hstep hc
          have nc : ((b0 : Int) == (c : Int)) = false := by rw [beq_eq_false_iff_ne]; omega
          have HG2 := Lib.hid hg2; have HC := Lib.hid hc; have HB := Lib.hid hB
          clear hstep hg hg2 hc hj hfb hB
          go_wp2_with fail
          go_quiet (fail)
          go_wp2
          go_roundw
          case rel => exact ⟨j + 1, by omega, by first | exact congrArg (Value.int .i64) (Int.natCast_add j 1).symm | exact congrArg (Value.int .i64) (ej.trans (Int.natCast_add j 1).symm), HG2.out, below_drewN HB.out _⟩
          case measure => first | (show 18 - ((j : Int) + 1).toNat < 18 - ((j : Int)).toNat; omega) | (rw [ej]; show 18 - ((j : Int) + 1).toNat < 18 - ((j : Int)).toNat; omega)
      · obtain rfl : j = 18 := by omega
        have hne : ¬ cls b0 = 5 := fun h => by
          obtain ⟨i, hi, e⟩ := HFA.out b0 HBL.out h
          exact hg i hi e
        have HR := Lib.hid (HSN.out hne); have HB := Lib.hid hB
        have hge : decide ((18 : Int) < (SG.size : Int)) = false := by rw [HSZ.out]; decide
        clear hg hne hB hlt hj
        go_wp2
        go_ret
        exact ⟨by rw [HR.out]; rfl, HB.out⟩
end Go.Proofs.YtmogmneaomndeaaDoor
