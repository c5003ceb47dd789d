/-
  surveyorref08: Sign without a trace; form, Apart.
-/
import Derived.Test.YtmogmneaomndeaaDoorLexN
import Derived.Test.YtmogmneaomndeaaDoorLexP
import Derived.Test.YtmogmneaomndeaaDoorLexQ
import Derived.Test.YtmogmneaomndeaaDoorLexO
import Derived.Test.YtmogmneaomndeaaDoorLexJ
import Derived.BigQuiet
import Derived.Deep.QuietTactic
set_option linter.unusedSimpArgs false
set_option linter.unusedVariables false
namespace Go.Proofs.YtmogmneaomndeaaDoor
open Go Go.Proofs Go.RowKit

theorem dq {w wr : World} (h : ∃ n, wr = w.drewN n) (m : Nat) : ∃ n, wr.drewN m = w.drewN n := by
  obtain ⟨n, rfl⟩ := h
  exact ⟨n + m, by rw [World.drewN_drewN]⟩
set_option maxHeartbeats 1000000 in
theorem refSign_q (s : ByteArray) (hs : s.size ≤ 9223372036854775807) (w : World) :
    Calls Tryd.prog 44 #[.string s] w fun e w' => e = .returned (.int .i64 (sl (bytes s) : Nat)) ∧ ∃ n, w' = w.drewN n := by
  obtain ⟨r, hr⟩ : ∃ r, sl (bytes s) = r := ⟨_, rfl⟩
  rw [hr]
  unfold sl at hr
  rw [bytes_length, show ((bytes s).getD 0 0).toNat = byteAt s 0 from rfl] at hr
  by_cases hz : s.size = 0
  · obtain rfl := empty_of_size hz
    have hr0 : r = 0 := by rw [← hr, if_neg (by rintro ⟨h, -⟩; omega), if_neg (by rintro ⟨h, -⟩; omega)]
    subst hr0
    clear hr hz hs
    go_enter Tryd.func44, Tryd.ntmps44
    go_wp2_with fail
    go_loopw [4] (fun iv wr => ∃ j : Nat, j ≤ 18 ∧ iv = .int .i64 (j : Int) ∧ (∃ n, wr = w.drewN n)) (fun iv _ => 18 - (intOf iv).toNat)
    case atStart => exact ⟨0, Nat.zero_le _, rfl, ⟨0, rfl⟩⟩
    case round =>
      obtain ⟨j, hj, rfl, hB⟩ := hrel
      by_cases hlt : j < 18
      · have hj1 : (j : Int) < 18 := by omega
        have hj2 : decide ((j : Int) < 18) = true := by rw [decide_eq_true_iff]; omega
        have ej : wrap64 ((j : Int) + 1) = (j : Int) + 1 := by unfold wrap64; omega
        have HB := Lib.hid hB; clear hB
        go_wp2_with fail
        go_quiet (fail)
        go_wp2
        go_roundw
        case rel => exact ⟨j + 1, by omega, by first | exact congrArg (Value.int .i64) (Int.natCast_add j 1).symm | exact congrArg (Value.int .i64) (ej.trans (Int.natCast_add j 1).symm), dq HB.out _⟩
        case measure => first | (show 18 - ((j : Int) + 1).toNat < 18 - ((j : Int)).toNat; omega) | (rw [ej]; show 18 - ((j : Int) + 1).toNat < 18 - ((j : Int)).toNat; omega)
      · obtain rfl : j = 18 := by omega
        have HB := Lib.hid hB; clear hB hlt hj
        go_wp2
        go_ret
        exact ⟨rfl, HB.out⟩
  have hp : 0 < s.size := by omega
  have hb := byteAt_get s 0 hp
  have hbl := byteAt_lt s 0
  have g2 : (0 : Int) < (s.size : Int) := by omega
  have gp : decide ((0 : Int) < (s.size : Int)) = true := by rw [decide_eq_true_iff]; omega
  have gp2 : decide (0 < s.size) = true := by rw [decide_eq_true_iff]; omega
  have hk2 := fun h : 2 ≤ s.size => ls_two h
  have hone : ¬ (2 ≤ s.size ∧ lsB ((bytes s).take 2) = true) → (cls (byteAt s 0) = 5 → r = 1) ∧ (¬ cls (byteAt s 0) = 5 → r = 0) := fun h => by
    rw [if_neg h] at hr
    exact ⟨fun h5 => by rw [← hr, if_pos ⟨hp, h5⟩], fun h5 => by rw [← hr, if_neg (fun q => h5 q.2)]⟩
  have htwo : 2 ≤ s.size ∧ lsB ((bytes s).take 2) = true → r = 2 := fun h => by rw [← hr, if_pos h]
  clear hr
  by_cases h2 : 2 ≤ s.size
  · have g3 : decide ((2 : Int) ≤ (s.size : Int)) = true := by rw [decide_eq_true_iff]; omega
    have g4 : (1 : Int) < (s.size : Int) := by omega
    have hb1 := byteAt_get s 1 (by omega)
    have hl := hk2 h2
    rw [hl] at hone htwo
    generalize byteAt s 0 = b0 at *
    generalize byteAt s 1 = b1 at *
    have a1 : ((b1 : Int) == 61) = decide (b1 = 61) := bI b1 61
    have c1 : ((b0 : Int) == 58) = decide (b0 = 58) := bI b0 58
    have c2 : ((b0 : Int) == 33) = decide (b0 = 33) := bI b0 33
    have c3 : ((b0 : Int) == 60) = decide (b0 = 60) := bI b0 60
    have c4 : ((b0 : Int) == 62) = decide (b0 = 62) := bI b0 62
    have H2S := Lib.hid h2; have HBL := Lib.hid hbl; have HZ := Lib.hid hz; have HP := Lib.hid hp
    generalize decide (b1 = 61) = p at *
    generalize decide (b0 = 58) = q1 at *
    generalize decide (b0 = 33) = q2 at *
    generalize decide (b0 = 60) = q3 at *
    generalize decide (b0 = 62) = q4 at *
    have KO := Lib.hid hone; have KT := Lib.hid htwo
    clear hone htwo hk2 hl
    cases p
    · have hsn := KO.out (by simp)
      have HSN := Lib.hid hsn.2
      have HSL : Hid (decide (cls b0 = 5) = true → r = 1) := Lib.hid (fun h => hsn.1 (of_decide_eq_true h))
      clear hsn KO KT hbl hz
      go_enter Tryd.func44, Tryd.ntmps44
      go_wp2_with fail
      generalize hSG : (⟨#[123, 125, 40, 41, 91, 93, 44, 59, 58, 46, 61, 60, 62, 43, 45, 42, 47, 37]⟩ : ByteArray) = SG at *
      have hsz : SG.size = 18 := by rw [← hSG]; rfl
      have hfb : ∀ j, j < 18 → decide (cls (byteAt SG j) = 5) = true := by rw [← hSG]; exact sgIn
      have hfa : ∀ b, b < 256 → cls b = 5 → ∃ j, j < 18 ∧ byteAt SG j = b := by rw [← hSG]; exact sgAll
      have HSZ := Lib.hid hsz; have HFB := Lib.hid hfb; have HFA := Lib.hid hfa
      clear hSG hfb hfa hsz
      go_loopw [4] (fun iv wr => ∃ j : Nat, j ≤ 18 ∧ iv = .int .i64 (j : Int) ∧ (∀ i, i < j → byteAt SG i ≠ b0) ∧ (∃ n, wr = w.drewN n)) (fun iv _ => 18 - (intOf iv).toNat)
      case atStart => exact ⟨0, Nat.zero_le _, rfl, fun i h => absurd h (Nat.not_lt_zero _), ⟨0, rfl⟩⟩
      case round =>
        obtain ⟨j, hj, rfl, hg, hB⟩ := hrel
        by_cases hlt : j < 18
        · have hjs : j < SG.size := by rw [HSZ.out]; exact hlt
          have hbj := byteAt_get SG j hjs
          have hj0 : (0 : Int) ≤ (j : Int) := by omega
          have hj1 : (j : Int) < (SG.size : Int) := by omega
          have ej : wrap64 ((j : Int) + 1) = (j : Int) + 1 := by unfold wrap64; omega
          have hfb := HFB.out j hlt
          have hstep : byteAt SG j ≠ b0 → ∀ i, i < j + 1 → byteAt SG i ≠ b0 := fun h i hi => by
            rcases Nat.lt_or_ge i j with q | q
            · exact hg i q
            · obtain rfl : i = j := by omega
              exact h
          generalize byteAt SG j = c at *
          by_cases hc : c = b0
          · subst hc
            have hr : decide (cls c = 5) = true := hfb
            have HR := Lib.hid (HSL.out hr); have HB := Lib.hid hB
            clear hr hstep hg hj hfb hB
            go_wp2_with fail
            go_quiet (fail)
            go_wp2
            go_ret
            exact ⟨by rw [HR.out]; rfl, dq HB.out _⟩
          · have hg2 := hstep hc
            have nc : ((b0 : Int) == (c : Int)) = false := by rw [beq_eq_false_iff_ne]; omega
            have HG2 := Lib.hid hg2; have HC := Lib.hid hc; have HB := Lib.hid hB
            clear hstep hg hg2 hc hj hfb hB
            go_wp2_with fail
            go_quiet (fail)
            go_wp2
            go_roundw
            case rel => exact ⟨j + 1, by omega, by first | exact congrArg (Value.int .i64) (Int.natCast_add j 1).symm | exact congrArg (Value.int .i64) (ej.trans (Int.natCast_add j 1).symm), HG2.out, dq HB.out _⟩
            case measure => first | (show 18 - ((j : Int) + 1).toNat < 18 - ((j : Int)).toNat; omega) | (rw [ej]; show 18 - ((j : Int) + 1).toNat < 18 - ((j : Int)).toNat; omega)
        · obtain rfl : j = 18 := by omega
          have hne : ¬ cls b0 = 5 := fun h => by
            obtain ⟨i, hi, e⟩ := HFA.out b0 HBL.out h
            exact hg i hi e
          have HR := Lib.hid (HSN.out hne); have HB := Lib.hid hB
          have hge : decide ((18 : Int) < (SG.size : Int)) = false := by rw [HSZ.out]; decide
          clear hg hne hB hlt hj
          go_wp2
          go_ret
          exact ⟨by rw [HR.out]; rfl, HB.out⟩
    · cases q1
      · cases q2
        · cases q3
          · cases q4
            · have hsn := KO.out (by simp)
              have HSN := Lib.hid hsn.2
              have HSL : Hid (decide (cls b0 = 5) = true → r = 1) := Lib.hid (fun h => hsn.1 (of_decide_eq_true h))
              clear hsn KO KT hbl hz
              go_enter Tryd.func44, Tryd.ntmps44
              go_wp2_with fail
              generalize hSG : (⟨#[123, 125, 40, 41, 91, 93, 44, 59, 58, 46, 61, 60, 62, 43, 45, 42, 47, 37]⟩ : ByteArray) = SG at *
              have hsz : SG.size = 18 := by rw [← hSG]; rfl
              have hfb : ∀ j, j < 18 → decide (cls (byteAt SG j) = 5) = true := by rw [← hSG]; exact sgIn
              have hfa : ∀ b, b < 256 → cls b = 5 → ∃ j, j < 18 ∧ byteAt SG j = b := by rw [← hSG]; exact sgAll
              have HSZ := Lib.hid hsz; have HFB := Lib.hid hfb; have HFA := Lib.hid hfa
              clear hSG hfb hfa hsz
              go_loopw [4] (fun iv wr => ∃ j : Nat, j ≤ 18 ∧ iv = .int .i64 (j : Int) ∧ (∀ i, i < j → byteAt SG i ≠ b0) ∧ (∃ n, wr = w.drewN n)) (fun iv _ => 18 - (intOf iv).toNat)
              case atStart => exact ⟨0, Nat.zero_le _, rfl, fun i h => absurd h (Nat.not_lt_zero _), ⟨0, rfl⟩⟩
              case round =>
                obtain ⟨j, hj, rfl, hg, hB⟩ := hrel
                by_cases hlt : j < 18
                · have hjs : j < SG.size := by rw [HSZ.out]; exact hlt
                  have hbj := byteAt_get SG j hjs
                  have hj0 : (0 : Int) ≤ (j : Int) := by omega
                  have hj1 : (j : Int) < (SG.size : Int) := by omega
                  have ej : wrap64 ((j : Int) + 1) = (j : Int) + 1 := by unfold wrap64; omega
                  have hfb := HFB.out j hlt
                  have hstep : byteAt SG j ≠ b0 → ∀ i, i < j + 1 → byteAt SG i ≠ b0 := fun h i hi => by
                    rcases Nat.lt_or_ge i j with q | q
                    · exact hg i q
                    · obtain rfl : i = j := by omega
                      exact h
                  generalize byteAt SG j = c at *
                  by_cases hc : c = b0
                  · subst hc
                    have hr : decide (cls c = 5) = true := hfb
                    have HR := Lib.hid (HSL.out hr); have HB := Lib.hid hB
                    clear hr hstep hg hj hfb hB
                    go_wp2_with fail
                    go_quiet (fail)
                    go_wp2
                    go_ret
                    exact ⟨by rw [HR.out]; rfl, dq HB.out _⟩
                  · have hg2 := hstep hc
                    have nc : ((b0 : Int) == (c : Int)) = false := by rw [beq_eq_false_iff_ne]; omega
                    have HG2 := Lib.hid hg2; have HC := Lib.hid hc; have HB := Lib.hid hB
                    clear hstep hg hg2 hc hj hfb hB
                    go_wp2_with fail
                    go_quiet (fail)
                    go_wp2
                    go_roundw
                    case rel => exact ⟨j + 1, by omega, by first | exact congrArg (Value.int .i64) (Int.natCast_add j 1).symm | exact congrArg (Value.int .i64) (ej.trans (Int.natCast_add j 1).symm), HG2.out, dq HB.out _⟩
                    case measure => first | (show 18 - ((j : Int) + 1).toNat < 18 - ((j : Int)).toNat; omega) | (rw [ej]; show 18 - ((j : Int) + 1).toNat < 18 - ((j : Int)).toNat; omega)
                · obtain rfl : j = 18 := by omega
                  have hne : ¬ cls b0 = 5 := fun h => by
                    obtain ⟨i, hi, e⟩ := HFA.out b0 HBL.out h
                    exact hg i hi e
                  have HR := Lib.hid (HSN.out hne); have HB := Lib.hid hB
                  have hge : decide ((18 : Int) < (SG.size : Int)) = false := by rw [HSZ.out]; decide
                  clear hg hne hB hlt hj
                  go_wp2
                  go_ret
                  exact ⟨by rw [HR.out]; rfl, HB.out⟩
            · have H2 := Lib.hid (KT.out ⟨H2S.out, rfl⟩); clear KO KT hbl hz
              go_enter Tryd.func44, Tryd.ntmps44
              go_wp2
              go_ret
              exact ⟨by rw [H2.out]; rfl, ⟨0, rfl⟩⟩
          · have H2 := Lib.hid (KT.out ⟨H2S.out, by simp⟩); clear KO KT hbl hz
            go_enter Tryd.func44, Tryd.ntmps44
            go_wp2
            go_ret
            exact ⟨by rw [H2.out]; rfl, ⟨0, rfl⟩⟩
        · have H2 := Lib.hid (KT.out ⟨H2S.out, by simp⟩); clear KO KT hbl hz
          go_enter Tryd.func44, Tryd.ntmps44
          go_wp2
          go_ret
          exact ⟨by rw [H2.out]; rfl, ⟨0, rfl⟩⟩
      · have H2 := Lib.hid (KT.out ⟨H2S.out, by simp⟩); clear KO KT hbl hz
        go_enter Tryd.func44, Tryd.ntmps44
        go_wp2
        go_ret
        exact ⟨by rw [H2.out]; rfl, ⟨0, rfl⟩⟩
  · have g3 : decide ((2 : Int) ≤ (s.size : Int)) = false := by rw [decide_eq_false_iff_not]; omega
    generalize byteAt s 0 = b0 at *
    have hsn := hone (fun h => h2 h.1)
    have HSN := Lib.hid hsn.2
    have HSL : Hid (decide (cls b0 = 5) = true → r = 1) := Lib.hid (fun h => hsn.1 (of_decide_eq_true h))
    have HBL := Lib.hid hbl; have HZ := Lib.hid hz; have HP := Lib.hid hp; have HH2 := Lib.hid h2
    clear hsn hone htwo hk2 h2 hbl hz
    go_enter Tryd.func44, Tryd.ntmps44
    go_wp2_with fail
    generalize hSG : (⟨#[123, 125, 40, 41, 91, 93, 44, 59, 58, 46, 61, 60, 62, 43, 45, 42, 47, 37]⟩ : ByteArray) = SG at *
    have hsz : SG.size = 18 := by rw [← hSG]; rfl
    have hfb : ∀ j, j < 18 → decide (cls (byteAt SG j) = 5) = true := by rw [← hSG]; exact sgIn
    have hfa : ∀ b, b < 256 → cls b = 5 → ∃ j, j < 18 ∧ byteAt SG j = b := by rw [← hSG]; exact sgAll
    have HSZ := Lib.hid hsz; have HFB := Lib.hid hfb; have HFA := Lib.hid hfa
    clear hSG hfb hfa hsz
    go_loopw [4] (fun iv wr => ∃ j : Nat, j ≤ 18 ∧ iv = .int .i64 (j : Int) ∧ (∀ i, i < j → byteAt SG i ≠ b0) ∧ (∃ n, wr = w.drewN n)) (fun iv _ => 18 - (intOf iv).toNat)
    case atStart => exact ⟨0, Nat.zero_le _, rfl, fun i h => absurd h (Nat.not_lt_zero _), ⟨0, rfl⟩⟩
    case round =>
      obtain ⟨j, hj, rfl, hg, hB⟩ := hrel
      by_cases hlt : j < 18
      · have hjs : j < SG.size := by rw [HSZ.out]; exact hlt
        have hbj := byteAt_get SG j hjs
        have hj0 : (0 : Int) ≤ (j : Int) := by omega
        have hj1 : (j : Int) < (SG.size : Int) := by omega
        have ej : wrap64 ((j : Int) + 1) = (j : Int) + 1 := by unfold wrap64; omega
        have hfb := HFB.out j hlt
        have hstep : byteAt SG j ≠ b0 → ∀ i, i < j + 1 → byteAt SG i ≠ b0 := fun h i hi => by
          rcases Nat.lt_or_ge i j with q | q
          · exact hg i q
          · obtain rfl : i = j := by omega
            exact h
        generalize byteAt SG j = c at *
        by_cases hc : c = b0
        · subst hc
          have hr : decide (cls c = 5) = true := hfb
          have HR := Lib.hid (HSL.out hr); have HB := Lib.hid hB
          clear hr hstep hg hj hfb hB
          go_wp2_with fail
          go_quiet (fail)
          go_wp2
          go_ret
          exact ⟨by rw [HR.out]; rfl, dq HB.out _⟩
        · have hg2 := hstep hc
          have nc : ((b0 : Int) == (c : Int)) = false := by rw [beq_eq_false_iff_ne]; omega
          have HG2 := Lib.hid hg2; have HC := Lib.hid hc; have HB := Lib.hid hB
          clear hstep hg hg2 hc hj hfb hB
          go_wp2_with fail
          go_quiet (fail)
          go_wp2
          go_roundw
          case rel => exact ⟨j + 1, by omega, by first | exact congrArg (Value.int .i64) (Int.natCast_add j 1).symm | exact congrArg (Value.int .i64) (ej.trans (Int.natCast_add j 1).symm), HG2.out, dq HB.out _⟩
          case measure => first | (show 18 - ((j : Int) + 1).toNat < 18 - ((j : Int)).toNat; omega) | (rw [ej]; show 18 - ((j : Int) + 1).toNat < 18 - ((j : Int)).toNat; omega)
      · obtain rfl : j = 18 := by omega
        have hne : ¬ cls b0 = 5 := fun h => by
          obtain ⟨i, hi, e⟩ := HFA.out b0 HBL.out h
          exact hg i hi e
        have HR := Lib.hid (HSN.out hne); have HB := Lib.hid hB
        have hge : decide ((18 : Int) < (SG.size : Int)) = false := by rw [HSZ.out]; decide
        clear hg hne hB hlt hj
        go_wp2
        go_ret
        exact ⟨by rw [HR.out]; rfl, HB.out⟩
theorem words_iw : ∀ x ∈ wordsL, iwB (bytes x) = true := by decide +kernel
theorem res_iw {s : ByteArray} (h : Lib.containsS wordsL s = true) : iwB (bytes s) = true := words_iw s ((Lib.containsS_iff _ _).1 h)
/-- The error of the text of a token. -/
def fmE (k : Int) (l : List UInt8) : Nat := if itB k l = true then 0 else 3

set_option maxHeartbeats 400000 in
theorem form_any (k : Int) (s : ByteArray) (a : Int) (hk0 : 0 ≤ k) (hk3 : k ≤ 3) (hs : s.size ≤ 9223372036854775807) (w : World) :
    Calls Tryd.prog 56 #[.agg #[.int .i64 k, .string s, .int .i64 a]] w fun e w' => e = .returned (.int .i64 (fmE k (bytes s) : Nat)) ∧ Below w.heap.size w w' := by
  have CM := fun W => refName_any s hs W
  have CT := fun W => refNumber_any s hs W
  have CR := fun W => reserved_any s hs W
  have CS := fun W => refSign_q s hs W
  have hA := (Below.refl w.heap.size w).alloc (Nat.le_refl _) (Obj.cells #[.int .i64 k, .string s, .int .i64 a] 49)
  have hx : (w.alloc (Obj.cells #[.int .i64 k, .string s, .int .i64 a] 49)).cell? ⟨w.heap.size, 1, none⟩ = some (.string s) := by go_cell
  have hlt : w.heap.size < (w.alloc (Obj.cells #[.int .i64 k, .string s, .int .i64 a] 49)).heap.size := by simp
  have hcell : ∀ W, Below (w.alloc (Obj.cells #[.int .i64 k, .string s, .int .i64 a] 49)).heap.size (w.alloc (Obj.cells #[.int .i64 k, .string s, .int .i64 a] 49)) W → W.cell? ⟨w.heap.size, 1, none⟩ = some (.string s) := fun W hW => (hW.cell (p := ⟨w.heap.size, 1, none⟩) hlt).trans hx
  have hl : (bytes s).length = s.size := rfl
  unfold fmE itB
  rw [hl]
  have HA := Lib.hid hA; have HC := Lib.hid hcell
  clear hA hcell hx hlt hl
  by_cases k0 : k = 0
  · subst k0
    rw [if_pos rfl]
    have hnm : nmE s = if iwB (bytes s) = true ∧ Lib.containsS wordsL s = false then 0 else 8 := rfl
    have hri := fun h => res_iw (s := s) h
    generalize nmE s = nm at *
    generalize Lib.containsS wordsL s = r at *
    generalize iwB (bytes s) = v at *
    have KM := Lib.hid CM; have KR := Lib.hid CR; have HS := Lib.hid hs
    clear CM CT CR CS hs hk0 hk3
    by_cases hv : v = true ∧ r = false
    · rw [if_pos hv] at hnm
      obtain ⟨rfl, rfl⟩ := hv
      subst hnm
      rw [if_pos rfl]
      clear hri
      go_enter Tryd.func56, Tryd.ntmps56
      go_wp2_with (go_at_call 19; refine (KM.out _).mono ?_; rintro e w3 ⟨rfl, hb3⟩; refine Hid.out ?_)
      have HB3 := Lib.hid (Below.chain HA.out hb3)
      clear hb3
      refine Lib.hid ?_
      go_wp2
      go_ret
      exact ⟨rfl, HB3.out⟩
    · rw [if_neg hv] at hnm
      subst hnm
      go_enter Tryd.func56, Tryd.ntmps56
      go_wp2_with (go_at_call 19; refine (KM.out _).mono ?_; rintro e w3 ⟨rfl, hb3⟩; refine Hid.out ?_)
      have c3 := HC.out _ hb3
      have HB3 := Lib.hid (Below.chain HA.out hb3)
      clear hb3
      refine Lib.hid ?_
      go_wp2_with (go_at_call 48; refine (KR.out _).mono ?_; rintro e w4 ⟨rfl, hb4⟩; refine Hid.out ?_)
      have HB4 := Lib.hid (Below.chain HB3.out hb4)
      clear hb4
      cases r
      · obtain rfl : v = false := by
          cases v
          · rfl
          · exact absurd ⟨rfl, rfl⟩ hv
        clear hri hv
        refine Lib.hid ?_
        go_wp2
        go_ret
        exact ⟨rfl, HB4.out⟩
      · obtain rfl : v = true := hri rfl
        clear hri hv
        refine Lib.hid ?_
        go_wp2
        go_ret
        exact ⟨rfl, HB4.out⟩
  rw [if_neg k0]
  have b0 : (k == 0) = false := by rw [beq_eq_false_iff_ne]; exact k0
  by_cases k1 : k = 1
  · subst k1
    rw [if_pos rfl]
    generalize numErr (bytes s) = ne at *
    have e : decide (ne = 0) = ((ne : Int) == 0) := by
      by_cases h : ne = 0
      · subst h; rfl
      · rw [decide_eq_false h]; symm; rw [beq_eq_false_iff_ne]; omega
    rw [e]
    generalize hv : ((ne : Int) == 0) = v2 at *
    have HE := Lib.hid e; have KT := Lib.hid CT; have HS := Lib.hid hs
    clear CM CT CR CS e k0 hs hk0 hk3
    go_enter Tryd.func56, Tryd.ntmps56
    go_wp2_with (go_at_call 21; refine (KT.out _).mono ?_; rintro e w3 ⟨rfl, h⟩; subst h; refine Hid.out ?_)
    cases v2
    all_goals
      refine Lib.hid ?_
      go_wp2
      go_ret
      exact ⟨rfl, HA.out⟩
  rw [if_neg k1]
  have b1 : (k == 1) = false := by rw [beq_eq_false_iff_ne]; exact k1
  by_cases k2 : k = 2
  · subst k2
    rw [if_pos rfl]
    generalize sl (bytes s) = m at *
    have e : decide (m = s.size) = ((m : Int) == (s.size : Int)) := by
      by_cases h : m = s.size
      · rw [decide_eq_true h]; symm; rw [beq_iff_eq]; omega
      · rw [decide_eq_false h]; symm; rw [beq_eq_false_iff_ne]; omega
    rw [e]
    generalize hv : ((m : Int) == (s.size : Int)) = v2 at *
    have HE := Lib.hid e; have KS := Lib.hid CS; have HS := Lib.hid hs
    clear CM CT CR CS e k0 k1 hs hk0 hk3
    by_cases hz : s.size = 0
    · have g1 : decide ((0 : Int) < (s.size : Int)) = false := by rw [decide_eq_false_iff_not]; omega
      have g2 : decide (0 < s.size) = false := by rw [decide_eq_false_iff_not]; omega
      rw [g2, Bool.false_and, if_neg (by simp)]
      have HZ := Lib.hid hz; clear hz
      go_enter Tryd.func56, Tryd.ntmps56
      go_wp2_with fail
      go_quiet (fail)
      go_wp2
      go_ret
      exact ⟨rfl, below_drewN HA.out _⟩
    · have g1 : (0 : Int) < (s.size : Int) := by omega
      have g2 : decide (0 < s.size) = true := by rw [decide_eq_true_iff]; omega
      rw [g2, Bool.true_and]
      have HZ := Lib.hid hz; clear hz
      cases v2
      · rw [if_neg (by simp)]
        go_enter Tryd.func56, Tryd.ntmps56
        go_wp2_with fail
        go_quiet (first | (go_at_call 44; refine Calls.quiet_of (KS.out _)))
        go_wp2
        go_ret
        exact ⟨rfl, below_drewN HA.out _⟩
      · rw [if_pos rfl]
        go_enter Tryd.func56, Tryd.ntmps56
        go_wp2_with fail
        go_quiet (first | (go_at_call 44; refine Calls.quiet_of (KS.out _)))
        go_wp2
        go_ret
        exact ⟨rfl, below_drewN HA.out _⟩
  rw [if_neg k2]
  have k3 : k = 3 := by omega
  subst k3
  clear CM CT CR CS k0 k1 k2 b0 b1 hk0 hk3
  by_cases hz : s.size = 0
  · obtain rfl := empty_of_size hz
    rw [decide_eq_true hz, if_pos rfl]
    clear hz hs
    go_enter Tryd.func56, Tryd.ntmps56
    go_wp2
    go_ret
    exact ⟨rfl, HA.out⟩
  · have q0 := toList_ne (s := s) (by omega)
    have q1 : s.toList.isEmpty = false := by rw [List.isEmpty_eq_false_iff]; exact q0
    rw [decide_eq_false hz, if_neg (by simp)]
    have HZ := Lib.hid hz; have HS := Lib.hid hs
    clear hz hs
    go_enter Tryd.func56, Tryd.ntmps56
    go_wp2
    go_ret
    exact ⟨rfl, HA.out⟩
theorem okX_short {x : List UInt8} (h : okX x) : x.length ≤ 100 := by
  obtain ⟨hne, he, ht⟩ := h
  unfold ter at he
  by_cases h3 : hc x = 3
  · rw [if_pos h3] at he
    rw [tn_word (.inl h3)] at ht
    split at he
    · cases he
    · omega
  · rw [if_neg h3] at he
    by_cases h4 : hc x = 4
    · rw [if_pos h4] at he
      rw [tn_word (.inr h4)] at ht
      rw [ht, List.take_length] at he
      unfold numErr at he
      split at he
      · split at he
        · cases he
        · split at he
          · cases he
          · omega
      · cases he
    · rw [tn_sign h3 h4] at ht
      have : sl x ≤ 2 := by
        unfold sl
        split
        · omega
        · split <;> omega
      omega
theorem sep_scan {x y : ByteArray} (hx : okX (bytes x)) (hy : okX (bytes y)) : (apB (bytes x) (bytes y) = true → ∃ t1 t2 t3 : Tk, scR (x ++ y) = ([t1, t2, t3], 0, 0) ∧ t1.t = x ∧ t2.t = y) ∧
    (apB (bytes x) (bytes y) = false → (scR (x ++ y)).2.2 ≠ 0 ∨ ((scR (x ++ y)).2.2 = 0 ∧ ((scR (x ++ y)).1.length ≠ 3 ∨ (tkD (scR (x ++ y)).1 0).t ≠ x))) := by
  have h1 := okX_short hx
  have h2 := okX_short hy
  rw [bytes_length] at h1 h2
  have hz : (x ++ y).size ≤ 65536 := by rw [ByteArray.size_append]; omega
  have hb := bytes_app x y
  have hl : (bytes x ++ bytes y).length + 1 = (bytes x ++ bytes y).length - 2 + 3 := by
    have q1 : 0 < (bytes x).length := List.length_pos_iff.2 hx.1
    have q2 : 0 < (bytes y).length := List.length_pos_iff.2 hy.1
    rw [List.length_append]; omega
  constructor
  · intro ha
    have e := sq_pair hx hy ((bytes x ++ bytes y).length - 2) ha
    rw [← hl] at e
    have e2 : sqR (bytes (x ++ y)) = sq ((bytes x ++ bytes y).length + 1) 0 (bytes x ++ bytes y) := by unfold sqR; rw [hb]
    refine ⟨_, _, _, by rw [scR_sq hz, e2, e, if_pos rfl]; rfl, str_bytes x, str_bytes y⟩
  · intro ha
    have e := sq_fused (y := bytes y) hx ((bytes x ++ bytes y).length) ha
    have e2 : sqR (bytes (x ++ y)) = sq ((bytes x ++ bytes y).length + 1) 0 (bytes x ++ bytes y) := by unfold sqR; rw [hb]
    rw [scR_sq hz, e2]
    generalize sq ((bytes x ++ bytes y).length + 1) 0 (bytes x ++ bytes y) = R at *
    by_cases h0 : R.2.2 = 0
    · rw [if_pos h0]
      refine .inr ⟨h0, .inr ?_⟩
      rcases e with e | ⟨t, r, e1, e2⟩
      · exact absurd h0 e
      · rw [e1]
        show str t.2.1 ≠ x
        intro q
        apply e2
        rw [← q, bytes_str]
    · rw [if_neg h0]; exact .inl h0

set_option maxHeartbeats 400000 in
theorem apart_any (x y : Tk) (hx : okX (bytes x.t)) (hy : okX (bytes y.t)) (w : World) :
    Calls Tryd.prog 57 #[.agg #[.int .i64 x.k, .string x.t, .int .i64 x.a], .agg #[.int .i64 y.k, .string y.t, .int .i64 y.a]] w fun e w' => e = .returned (.bool (!apB (bytes x.t) (bytes y.t))) ∧ Below w.heap.size w w' := by
  obtain ⟨xk, xt, xa⟩ := x
  obtain ⟨yk, yt, ya⟩ := y
  dsimp only at hx hy ⊢
  obtain ⟨s1, s2⟩ := sep_scan hx hy
  have h1 := okX_short hx
  have h2 := okX_short hy
  rw [bytes_length] at h1 h2
  have CS : ∀ W : World, Calls Tryd.prog 13 #[.string (xt ++ yt)] W fun e w' => ∃ ao c, e = .returned (.tuple #[.slice ao (scR (xt ++ yt)).1.length c, .int .i64 ((scR (xt ++ yt)).2.1 : Nat), .int .i64 ((scR (xt ++ yt)).2.2 : Nat)]) ∧ TRow w' ao c (scR (xt ++ yt)).1 ∧ Below W.heap.size W w' := fun W => by
    refine (refScan_any _ W).mono ?_
    rintro e w' ⟨v, rfl, ho, hb⟩
    obtain ⟨ao, c, rfl, hr⟩ := TRow.of_owns ho
    exact ⟨ao, c, rfl, hr, hb⟩
  have h9 : ¬ 9223372036854775807 < xt.size + yt.size := by omega
  generalize hW1 : (w.alloc (Obj.cells #[.int .i64 xk, .string xt, .int .i64 xa] 49)).alloc (Obj.cells #[.int .i64 yk, .string yt, .int .i64 ya] 49) = W1
  have hA : Below w.heap.size w W1 := by
    rw [← hW1]
    exact ((Below.refl w.heap.size w).alloc (Nat.le_refl _) _).alloc (by simp) _
  have c1 : W1.cell? ⟨w.heap.size, 1, none⟩ = some (.string xt) := by rw [← hW1]; exact (cell_old _ _ (by simp)).trans (World.cell?_alloc_new _ _ _ _)
  have c2 : W1.cell? ⟨w.heap.size + 1, 1, none⟩ = some (.string yt) := by rw [← hW1, show w.heap.size + 1 = (w.alloc (Obj.cells #[.int .i64 xk, .string xt, .int .i64 xa] 49)).heap.size by simp]; exact World.cell?_alloc_new _ _ _ _
  have z1 : w.heap.size + 1 < W1.heap.size := by rw [← hW1]; simp
  have KC : ∀ W, Below W1.heap.size W1 W → W.cell? ⟨w.heap.size, 1, none⟩ = some (.string xt) ∧ W.cell? ⟨w.heap.size + 1, 1, none⟩ = some (.string yt) := fun W hW => ⟨(hW.cell (p := ⟨w.heap.size, 1, none⟩) (by show w.heap.size < _; omega)).trans c1, (hW.cell (p := ⟨w.heap.size + 1, 1, none⟩) z1).trans c2⟩
  have HA := Lib.hid hA; have HC := Lib.hid KC; have HW1 := Lib.hid hW1
  clear hA KC z1 hW1 h1 h2 hx hy
  cases ha : apB (bytes xt) (bytes yt)
  · have hr := s2 ha
    clear s1 s2 ha
    generalize scR (xt ++ yt) = R at CS hr
    obtain ⟨L, at_, er⟩ := R
    dsimp only at CS hr
    rcases hr with h | ⟨rfl, h⟩
    · have te : ((er : Int) != 0) = true := by rw [bne_iff_ne]; omega
      have te2 : ((er : Int) == 0) = false := by rw [beq_eq_false_iff_ne]; omega
      have HR := Lib.hid h; have KS := Lib.hid CS
      clear h CS
      go_enter Tryd.func57, Tryd.ntmps57
      go_wp2_with fail
      rw [HW1.out]
      go_wp2_with (go_at_call 13; refine (KS.out _).mono ?_; rintro e w3 ⟨a3, n3, rfl, hr3, hb3⟩; refine Hid.out ?_)
      obtain ⟨d1, d2⟩ := HC.out _ hb3
      have HB3 := Lib.hid (Below.chain HA.out hb3)
      clear hb3 hr3 c1 c2
      refine Lib.hid ?_
      go_wp2_with fail
      go_quiet (fail)
      go_wp2
      go_ret
      exact ⟨rfl, below_drewN HB3.out _⟩
    · by_cases h3 : L.length = 3
      · have hx0 := h.resolve_left (fun q => q h3)
        have q1 : ((tkD L 0).t.toList != xt.toList) = true := by
          rw [bne_iff_ne]
          intro e
          exact hx0 ((Lib.bytes_beq_iff _ _).1 (by rw [beq_iff_eq]; exact e))
        have q2 : ((tkD L 0).t.toList == xt.toList) = false := (Lib.bytes_beq_false_iff _ _).2 hx0
        have hne : L ≠ [] := fun e => by rw [e] at h3; simp at h3
        have HTR := Lib.hid (fun (W : World) ao c (hr : TRow W ao c L) => hr.at hne)
        rw [h3] at CS
        have KS := Lib.hid CS; have H3 := Lib.hid h3
        clear CS h hx0 h3 hne
        go_enter Tryd.func57, Tryd.ntmps57
        go_wp2_with fail
        rw [HW1.out]
        go_wp2_with (go_at_call 13; refine (KS.out _).mono ?_; rintro e w3 ⟨a3, n3, rfl, hr3, hb3⟩; refine Hid.out ?_)
        obtain ⟨d1, d2⟩ := HC.out _ hb3
        obtain ⟨b, o, rfl, hat⟩ := HTR.out _ _ _ hr3
        have f1 := (hat 0 (by rw [H3.out]; omega) w3 (Below.refl _ _)).2.1
        have HB3 := Lib.hid (Below.chain HA.out hb3)
        generalize tkD L 0 = T0 at *
        clear hb3 hr3 c1 c2 hat
        refine Lib.hid ?_
        go_wp2_with fail
        go_quiet (fail)
        go_wp2
        go_ret
        exact ⟨rfl, below_drewN HB3.out _⟩
      · have q1 : ((L.length : Int) != 3) = true := by rw [bne_iff_ne]; omega
        have q2 : ((L.length : Int) == 3) = false := by rw [beq_eq_false_iff_ne]; omega
        have H3 := Lib.hid h3
        have KS := Lib.hid CS
        clear CS h h3
        generalize L.length = n at *
        go_enter Tryd.func57, Tryd.ntmps57
        go_wp2_with fail
        rw [HW1.out]
        go_wp2_with (go_at_call 13; refine (KS.out _).mono ?_; rintro e w3 ⟨a3, n3, rfl, hr3, hb3⟩; refine Hid.out ?_)
        obtain ⟨d1, d2⟩ := HC.out _ hb3
        have HB3 := Lib.hid (Below.chain HA.out hb3)
        clear hb3 hr3 c1 c2
        refine Lib.hid ?_
        go_wp2_with fail
        go_quiet (fail)
        go_wp2
        go_ret
        exact ⟨rfl, below_drewN HB3.out _⟩
  · obtain ⟨t1, t2, t3, hs, e1, e2⟩ := s1 ha
    clear s1 s2 ha
    rw [hs] at CS
    obtain ⟨L, hL⟩ : ∃ L, [t1, t2, t3] = L := ⟨_, rfl⟩
    have hne : L ≠ [] := by rw [← hL]; simp
    have HTR := Lib.hid (fun (W : World) ao c (hr : TRow W ao c L) => hr.at hne)
    have h3 : L.length = 3 := by rw [← hL]; rfl
    have g1 : (tkD L 0).t = xt := by rw [← hL]; exact e1
    have g2 : (tkD L 1).t = yt := by rw [← hL]; exact e2
    dsimp only at CS
    rw [hL, h3] at CS
    have H3 := Lib.hid h3; have KS := Lib.hid CS; have G1 := Lib.hid g1; have G2 := Lib.hid g2
    clear CS h3 hne hL hs e1 e2 g1 g2
    go_enter Tryd.func57, Tryd.ntmps57
    go_wp2_with fail
    rw [HW1.out]
    go_wp2_with (go_at_call 13; refine (KS.out _).mono ?_; rintro e w3 ⟨a3, n3, rfl, hr3, hb3⟩; refine Hid.out ?_)
    obtain ⟨d1, d2⟩ := HC.out _ hb3
    obtain ⟨b, o, rfl, hat⟩ := HTR.out _ _ _ hr3
    have f1 := (hat 0 (by rw [H3.out]; omega) w3 (Below.refl _ _)).2.1
    have f2 := (hat 1 (by rw [H3.out]; omega) w3 (Below.refl _ _)).2.1
    rw [G1.out] at f1
    rw [G2.out] at f2
    have HB3 := Lib.hid (Below.chain HA.out hb3)
    clear hb3 hr3 c1 c2 hat
    refine Lib.hid ?_
    go_wp2_with fail
    go_quiet (fail)
    go_wp2
    go_ret
    exact ⟨rfl, below_drewN HB3.out _⟩
end Go.Proofs.YtmogmneaomndeaaDoor
