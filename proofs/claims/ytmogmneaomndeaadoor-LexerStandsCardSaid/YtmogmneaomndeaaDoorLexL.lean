/-
  surveyorref08: Letter, Digit, Blank, Word, Number, word, Comment.
-/
import Derived.Test.YtmogmneaomndeaaDoorLexD
import Derived.WalkMore
set_option linter.unusedSimpArgs false
set_option linter.unusedVariables false
namespace Go.Proofs.YtmogmneaomndeaaDoor
open Go Go.Proofs Go.RowKit

theorem cls3 : ∀ n : Nat, n < 256 → decide (cls n = 3) = ((decide (97 ≤ n) && decide (n ≤ 122)) || (decide (65 ≤ n) && decide (n ≤ 90))) := by decide +kernel
theorem cls4 : ∀ n : Nat, n < 256 → decide (cls n = 4) = (decide (48 ≤ n) && decide (n ≤ 57)) := by decide +kernel
theorem cls1 : ∀ n : Nat, n < 256 → decide (cls n = 1) = (((decide (n = 32) || decide (n = 9)) || decide (n = 13)) || decide (n = 10)) := by decide +kernel
theorem cls2 : ∀ n : Nat, n < 256 → decide (cls n = 2) = decide (n = 35) := by decide +kernel
theorem dI (a b : Nat) : decide ((a : Int) ≤ (b : Int)) = decide (a ≤ b) := by rw [Bool.eq_iff_iff, decide_eq_true_iff, decide_eq_true_iff]; omega
theorem bI (a b : Nat) : ((a : Int) == (b : Int)) = decide (a = b) := by rw [Bool.eq_iff_iff, beq_iff_eq, decide_eq_true_iff]; omega

theorem digit_any (n : Nat) (hn : n < 256) (w : World) : Calls Tryd.prog 43 #[.int .u8 (n : Int)] w fun e w' => e = .returned (.bool (decide (cls n = 4))) ∧ w' = w := by
  rw [cls4 n hn]
  have h1 := dI 48 n; have h2 := dI n 57
  cases e1 : decide (48 ≤ n)
  · rw [e1] at h1
    rw [Bool.false_and]
    have h1 : decide ((48 : Int) ≤ (n : Int)) = false := h1
    have E1 := Lib.hid e1; clear e1 h2
    go_enter Tryd.func43, Tryd.ntmps43
    go_wp2
    go_ret
    exact ⟨rfl, rfl⟩
  · rw [e1] at h1
    rw [Bool.true_and]
    have h1 : decide ((48 : Int) ≤ (n : Int)) = true := h1
    have h2 : decide ((n : Int) ≤ (57 : Int)) = decide (n ≤ 57) := h2
    generalize decide (n ≤ 57) = v at *
    have E1 := Lib.hid e1; clear e1
    go_enter Tryd.func43, Tryd.ntmps43
    go_wp2
    go_ret
    exact ⟨rfl, rfl⟩
theorem letter_any (n : Nat) (hn : n < 256) (w : World) : Calls Tryd.prog 47 #[.int .u8 (n : Int)] w fun e w' => e = .returned (.bool (decide (cls n = 3))) ∧ w' = w := by
  rw [cls3 n hn]
  have h1 : decide ((97 : Int) ≤ (n : Int)) = decide (97 ≤ n) := dI 97 n
  have h2 : decide ((n : Int) ≤ (122 : Int)) = decide (n ≤ 122) := dI n 122
  have h3 : decide ((65 : Int) ≤ (n : Int)) = decide (65 ≤ n) := dI 65 n
  have h4 : decide ((n : Int) ≤ (90 : Int)) = decide (n ≤ 90) := dI n 90
  clear hn
  generalize decide (97 ≤ n) = b1 at *
  generalize decide (n ≤ 122) = b2 at *
  generalize decide (65 ≤ n) = b3 at *
  generalize decide (n ≤ 90) = b4 at *
  generalize (n : Int) = z at *
  cases b1 <;> cases b2 <;> cases b3 <;> cases b4
  all_goals
    go_enter Tryd.func47, Tryd.ntmps47
    go_wp2
    go_ret
    exact ⟨rfl, rfl⟩
theorem blank_any (n : Nat) (hn : n < 256) (w : World) : Calls Tryd.prog 39 #[.int .u8 (n : Int)] w fun e w' => e = .returned (.bool (decide (cls n = 1))) ∧ w' = w := by
  rw [cls1 n hn]
  have h1 : ((n : Int) == (32 : Int)) = decide (n = 32) := bI n 32
  have h2 : ((n : Int) == (9 : Int)) = decide (n = 9) := bI n 9
  have h3 : ((n : Int) == (13 : Int)) = decide (n = 13) := bI n 13
  have h4 : ((n : Int) == (10 : Int)) = decide (n = 10) := bI n 10
  clear hn
  generalize decide (n = 32) = b1 at *
  generalize decide (n = 9) = b2 at *
  generalize decide (n = 13) = b3 at *
  generalize decide (n = 10) = b4 at *
  generalize (n : Int) = z at *
  cases b1 <;> cases b2 <;> cases b3 <;> cases b4
  all_goals
    go_enter Tryd.func39, Tryd.ntmps39
    go_wp2
    go_ret
    exact ⟨rfl, rfl⟩

set_option maxHeartbeats 400000 in
theorem refWord_any (s : ByteArray) (hs : s.size ≤ 9223372036854775807) (w : World) :
    Calls Tryd.prog 41 #[.string s] w fun e w' => e = .returned (.int .i64 (wl (bytes s) : Nat)) ∧ w' = w := by
  have hle := wl_le (bytes s)
  rw [bytes_length] at hle
  have hin : ∀ j, j < wl (bytes s) → wdB (byteAt s j) = true := fun j hj => wl_in (bytes s) j hj
  have hend : wl (bytes s) < s.size → wdB (byteAt s (wl (bytes s))) = false := fun h => wl_end (bytes s) (by rw [bytes_length]; exact h)
  generalize wl (bytes s) = n at *
  have HIN := Lib.hid hin; have HEND := Lib.hid hend
  clear hin hend
  go_enter Tryd.func41, Tryd.ntmps41
  go_wp2_with fail
  go_loopw [3] (fun iv wr => ∃ j : Nat, j ≤ n ∧ iv = .int .i64 (j : Int) ∧ wr = w) (fun iv _ => n - (intOf iv).toNat)
  case atStart => exact ⟨0, Nat.zero_le _, rfl, rfl⟩
  case round =>
    obtain ⟨j, hj, rfl, hw⟩ := hrel
    subst hw
    by_cases hlt : j < s.size
    · have hb := byteAt_get s j hlt
      have hl := letter_any (byteAt s j) (byteAt_lt s j)
      have hd := digit_any (byteAt s j) (byteAt_lt s j)
      have hj0 : (0 : Int) ≤ (j : Int) := by omega
      have hj1 : (j : Int) < (s.size : Int) := by omega
      by_cases hjn : j < n
      · have hwd := HIN.out j hjn
        unfold wdB at hwd
        generalize decide (cls (byteAt s j) = 3) = v3 at *
        generalize decide (cls (byteAt s j) = 4) = v4 at *
        generalize byteAt s j = b at *
        have KL := Lib.hid hl; have KD := Lib.hid hd; clear hl hd
        cases v3
        · obtain rfl : v4 = true := by simpa using hwd
          clear hwd
          go_wp2_with (go_at_call 47; refine (KL.out _).mono ?_; rintro e w3 ⟨rfl, h⟩; subst h; refine Hid.out ?_)
          refine Lib.hid ?_
          go_wp2_with (go_at_call 43; refine (KD.out _).mono ?_; rintro e w3 ⟨rfl, h⟩; subst h; refine Hid.out ?_)
          refine Lib.hid ?_
          go_wp2
          go_roundw
          case rel => exact ⟨j + 1, by omega, by go_num, by trivial⟩
          case measure => simp [intOf]; omega
        · clear hwd
          go_wp2_with (go_at_call 47; refine (KL.out _).mono ?_; rintro e w3 ⟨rfl, h⟩; subst h; refine Hid.out ?_)
          refine Lib.hid ?_
          go_wp2
          go_roundw
          case rel => exact ⟨j + 1, by omega, by go_num, by trivial⟩
          case measure => simp [intOf]; omega
      · obtain rfl : j = n := by omega
        have hwd := HEND.out hlt
        unfold wdB at hwd
        rw [Bool.or_eq_false_iff] at hwd
        obtain ⟨q3, q4⟩ := hwd
        rw [q3] at hl
        rw [q4] at hd
        generalize byteAt s j = b at *
        have KL := Lib.hid hl; have KD := Lib.hid hd; clear hl hd q3 q4
        go_wp2_with (go_at_call 47; refine (KL.out _).mono ?_; rintro e w3 ⟨rfl, h⟩; subst h; refine Hid.out ?_)
        refine Lib.hid ?_
        go_wp2_with (go_at_call 43; refine (KD.out _).mono ?_; rintro e w3 ⟨rfl, h⟩; subst h; refine Hid.out ?_)
        refine Lib.hid ?_
        go_wp2
        go_ret
        exact ⟨rfl, rfl⟩
    · obtain rfl : j = n := by omega
      have hge : ¬ (j : Int) < (s.size : Int) := by omega
      go_wp2
      go_ret
      exact ⟨rfl, rfl⟩

theorem numErr_bad {s : ByteArray} {j : Nat} (hj : j < s.size) (h : cls (byteAt s j) ≠ 4) : numErr (bytes s) = 4 := by
  have e : adB (bytes s) = false := by
    unfold adB
    rw [Bool.and_eq_false_iff]
    refine .inl (List.all_eq_false.2 ⟨(bytes s)[j]'hj, List.getElem_mem _, ?_⟩)
    rw [← byteAt_idx hj]
    unfold dgB
    simpa using h
  unfold numErr
  rw [e, if_neg (by simp)]
theorem numErr_good {s : ByteArray} (h : ∀ j, j < s.size → cls (byteAt s j) = 4) : numErr (bytes s) = if s.size = 0 then 4 else if byteAt s 0 = 48 ∧ 1 < s.size then 3 else if 100 < s.size then 10 else 0 := by
  have e : adB (bytes s) = !decide (s.size = 0) := by
    unfold adB
    have : ((bytes s).all fun c => dgB c.toNat) = true := by
      rw [List.all_eq_true]
      intro c hc
      obtain ⟨j, hj, rfl⟩ := List.mem_iff_getElem.1 hc
      have := h j hj
      rw [byteAt_idx hj] at this
      unfold dgB
      rw [this]; rfl
    rw [this, Bool.true_and]
    show (!(bytes s).isEmpty) = !decide ((bytes s).length = 0)
    cases bytes s <;> simp
  unfold numErr
  rw [e]
  by_cases hz : s.size = 0
  · rw [if_neg (by simp [hz]), if_pos hz]
  · rw [if_pos (by simp [hz]), if_neg hz]
    rfl

set_option maxHeartbeats 400000 in
theorem refNumber_any (s : ByteArray) (hs : s.size ≤ 9223372036854775807) (w : World) :
    Calls Tryd.prog 21 #[.string s] w fun e w' => e = .returned (.int .i64 (numErr (bytes s) : Nat)) ∧ w' = w := by
  have hbad := fun j hj h => numErr_bad (s := s) (j := j) hj h
  have hgood := fun h => numErr_good (s := s) h
  generalize numErr (bytes s) = r at *
  have HBAD := Lib.hid hbad; have HGOOD := Lib.hid hgood
  clear hbad hgood
  go_enter Tryd.func21, Tryd.ntmps21
  go_wp2_with fail
  go_loopw [3] (fun iv wr => ∃ j : Nat, j ≤ s.size ∧ iv = .int .i64 (j : Int) ∧ (∀ i, i < j → cls (byteAt s i) = 4) ∧ wr = w) (fun iv _ => s.size - (intOf iv).toNat)
  case atStart => exact ⟨0, Nat.zero_le _, rfl, fun i h => absurd h (Nat.not_lt_zero _), rfl⟩
  case round =>
    obtain ⟨j, hj, rfl, hg, hw⟩ := hrel
    subst hw
    by_cases hlt : j < s.size
    · have hb := byteAt_get s j hlt
      have hd := digit_any (byteAt s j) (byteAt_lt s j)
      have hj0 : (0 : Int) ≤ (j : Int) := by omega
      have hj1 : (j : Int) < (s.size : Int) := by omega
      have ej : wrap64 ((j : Int) + 1) = (j : Int) + 1 := by unfold wrap64; omega
      have hbad := HBAD.out j hlt
      have hstep : cls (byteAt s j) = 4 → ∀ i, i < j + 1 → cls (byteAt s i) = 4 := fun h i hi => by
        rcases Nat.lt_or_ge i j with q | q
        · exact hg i q
        · obtain rfl : i = j := by omega
          exact h
      by_cases h4 : cls (byteAt s j) = 4
      · have hg2 := hstep h4
        rw [decide_eq_true h4] at hd
        generalize byteAt s j = b at *
        have KD := Lib.hid hd; have HG2 := Lib.hid hg2; have HJ := Lib.hid hlt
        clear hd hg2 hstep hg hbad h4 hj
        go_wp2_with (go_at_call 43; refine (KD.out _).mono ?_; rintro e w3 ⟨rfl, h⟩; subst h; refine Hid.out ?_)
        refine Lib.hid ?_
        go_wp2
        go_roundw
        case rel => exact ⟨j + 1, HJ.out, by first | exact congrArg (Value.int .i64) (Int.natCast_add j 1).symm | exact congrArg (Value.int .i64) (ej.trans (Int.natCast_add j 1).symm), HG2.out, by trivial⟩
        case measure => have := HJ.out; show s.size - ((j : Int) + 1).toNat < s.size - ((j : Int)).toNat; omega
      · have hr := hbad h4
        rw [decide_eq_false h4] at hd
        generalize byteAt s j = b at *
        have KD := Lib.hid hd; have HR := Lib.hid hr
        clear hd hstep hg hbad h4 hj hr
        go_wp2_with (go_at_call 43; refine (KD.out _).mono ?_; rintro e w3 ⟨rfl, h⟩; subst h; refine Hid.out ?_)
        refine Lib.hid ?_
        go_wp2
        go_ret
        exact ⟨by rw [HR.out]; rfl, rfl⟩
    · obtain rfl : j = s.size := by omega
      have hr := HGOOD.out hg
      have hge : ¬ (s.size : Int) < (s.size : Int) := by omega
      clear hg hlt hj
      by_cases hz : s.size = 0
      · rw [if_pos hz] at hr
        obtain rfl := empty_of_size hz
        have HR := Lib.hid hr; clear hr hz hge
        go_wp2
        go_ret
        exact ⟨by rw [HR.out]; rfl, rfl⟩
      · rw [if_neg hz] at hr
        have hp : 0 < s.size := by omega
        have hb := byteAt_get s 0 hp
        have g2 : (0 : Int) < (s.size : Int) := by omega
        have bz : ((s.size : Int) == 0) = false := by rw [beq_eq_false_iff_ne]; omega
        generalize byteAt s 0 = b at *
        by_cases h48 : b = 48
        · subst h48
          by_cases h1 : 1 < s.size
          · rw [if_pos ⟨rfl, h1⟩] at hr
            have g1 : decide ((1 : Int) < (s.size : Int)) = true := by rw [decide_eq_true_iff]; omega
            have HR := Lib.hid hr; have H1 := Lib.hid h1; have HZ := Lib.hid hz; clear hr h1 hz hge
            go_wp2
            go_ret
            exact ⟨by rw [HR.out]; rfl, rfl⟩
          · rw [if_neg (by omega), if_neg (by omega)] at hr
            have g1 : decide ((1 : Int) < (s.size : Int)) = false := by rw [decide_eq_false_iff_not]; omega
            have g3 : decide ((100 : Int) < (s.size : Int)) = false := by rw [decide_eq_false_iff_not]; omega
            have HR := Lib.hid hr; have H1 := Lib.hid h1; have HZ := Lib.hid hz; clear hr h1 hz hge
            go_wp2
            go_ret
            exact ⟨by rw [HR.out]; rfl, rfl⟩
        · have n48 : ((b : Int) == 48) = false := by rw [beq_eq_false_iff_ne]; omega
          rw [if_neg (by omega)] at hr
          by_cases h1 : 100 < s.size
          · rw [if_pos h1] at hr
            have g1 : decide ((100 : Int) < (s.size : Int)) = true := by rw [decide_eq_true_iff]; omega
            have HR := Lib.hid hr; have H1 := Lib.hid h1; have HZ := Lib.hid hz; have H48 := Lib.hid h48; clear hr h1 hz hge h48
            go_wp2
            go_ret
            exact ⟨by rw [HR.out]; rfl, rfl⟩
          · rw [if_neg h1] at hr
            have g1 : decide ((100 : Int) < (s.size : Int)) = false := by rw [decide_eq_false_iff_not]; omega
            have HR := Lib.hid hr; have H1 := Lib.hid h1; have HZ := Lib.hid hz; have H48 := Lib.hid h48; clear hr h1 hz hge h48
            go_wp2
            go_ret
            exact ⟨by rw [HR.out]; rfl, rfl⟩
end Go.Proofs.YtmogmneaomndeaaDoor
