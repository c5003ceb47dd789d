import Derived.Test.YtdibcllakkjegaaGreatDoorCut3
import Derived.WalkMore
import Derived.Test.YtdibcllakkjegaaGreatDoorCut5
import Derived.BigQuiet
import Derived.Deep.QuietTactic

set_option linter.unusedVariables false
/-
  lexer: what is skipped, the token at an offset.
-/
set_option linter.unusedSimpArgs false
set_option linter.unusedVariables false
namespace Go.Proofs.YtdibcllakkjegaaGreatDoor
open Go Go.Proofs Go.RowKit

theorem upTo_le (c : UInt8) (l : List UInt8) : (upTo c l).length ≤ l.length := (List.takeWhile_sublist _).length_le
end Go.Proofs.YtdibcllakkjegaaGreatDoor

/-
  surveyorref08: Letter, Digit, Blank, Word, Number, word, Comment.
-/
set_option linter.unusedSimpArgs false
set_option linter.unusedVariables false
namespace Go.Proofs.YtdibcllakkjegaaGreatDoor
open Go Go.Proofs Go.RowKit

theorem cls3 : ∀ n : Nat, n < 256 → decide (cls n = 3) = ((decide (97 ≤ n) && decide (n ≤ 122)) || (decide (65 ≤ n) && decide (n ≤ 90))) := by decide +kernel
theorem cls4 : ∀ n : Nat, n < 256 → decide (cls n = 4) = (decide (48 ≤ n) && decide (n ≤ 57)) := by decide +kernel
theorem cls1 : ∀ n : Nat, n < 256 → decide (cls n = 1) = (((decide (n = 32) || decide (n = 9)) || decide (n = 13)) || decide (n = 10)) := by decide +kernel
theorem cls2 : ∀ n : Nat, n < 256 → decide (cls n = 2) = decide (n = 35) := by decide +kernel
theorem dI (a b : Nat) : decide ((a : Int) ≤ (b : Int)) = decide (a ≤ b) := by rw [Bool.eq_iff_iff, decide_eq_true_iff, decide_eq_true_iff]; omega
theorem bI (a b : Nat) : ((a : Int) == (b : Int)) = decide (a = b) := by rw [Bool.eq_iff_iff, beq_iff_eq, decide_eq_true_iff]; omega

theorem digit_any (n : Nat) (hn : n < 256) (w : World) : Calls Tryz.prog 52 #[.int .u8 (n : Int)] w fun e w' => e = .returned (.bool (decide (cls n = 4))) ∧ w' = w := by
  rw [cls4 n hn]
  have h1 := dI 48 n; have h2 := dI n 57
  cases e1 : decide (48 ≤ n)
  · rw [e1] at h1
    rw [Bool.false_and]
    have h1 : decide ((48 : Int) ≤ (n : Int)) = false := h1
    have E1 := Lib.hid e1; clear e1 h2
    go_enter Tryz.func52, Tryz.ntmps52
    go_wp2
    go_ret
    exact ⟨rfl, rfl⟩
  · rw [e1] at h1
    rw [Bool.true_and]
    have h1 : decide ((48 : Int) ≤ (n : Int)) = true := h1
    have h2 : decide ((n : Int) ≤ (57 : Int)) = decide (n ≤ 57) := h2
    generalize decide (n ≤ 57) = v at *
    have E1 := Lib.hid e1; clear e1
    go_enter Tryz.func52, Tryz.ntmps52
    go_wp2
    go_ret
    exact ⟨rfl, rfl⟩
theorem letter_any (n : Nat) (hn : n < 256) (w : World) : Calls Tryz.prog 90 #[.int .u8 (n : Int)] w fun e w' => e = .returned (.bool (decide (cls n = 3))) ∧ w' = w := by
  rw [cls3 n hn]
  have h1 : decide ((97 : Int) ≤ (n : Int)) = decide (97 ≤ n) := dI 97 n
  have h2 : decide ((n : Int) ≤ (122 : Int)) = decide (n ≤ 122) := dI n 122
  have h3 : decide ((65 : Int) ≤ (n : Int)) = decide (65 ≤ n) := dI 65 n
  have h4 : decide ((n : Int) ≤ (90 : Int)) = decide (n ≤ 90) := dI n 90
  clear hn
  generalize decide (97 ≤ n) = b1 at *
  generalize decide (n ≤ 122) = b2 at *
  generalize decide (65 ≤ n) = b3 at *
  generalize decide (n ≤ 90) = b4 at *
  generalize (n : Int) = z at *
  cases b1 <;> cases b2 <;> cases b3 <;> cases b4
  all_goals
    go_enter Tryz.func90, Tryz.ntmps90
    go_wp2
    go_ret
    exact ⟨rfl, rfl⟩
theorem blank_any (n : Nat) (hn : n < 256) (w : World) : Calls Tryz.prog 48 #[.int .u8 (n : Int)] w fun e w' => e = .returned (.bool (decide (cls n = 1))) ∧ w' = w := by
  rw [cls1 n hn]
  have h1 : ((n : Int) == (32 : Int)) = decide (n = 32) := bI n 32
  have h2 : ((n : Int) == (9 : Int)) = decide (n = 9) := bI n 9
  have h3 : ((n : Int) == (13 : Int)) = decide (n = 13) := bI n 13
  have h4 : ((n : Int) == (10 : Int)) = decide (n = 10) := bI n 10
  clear hn
  generalize decide (n = 32) = b1 at *
  generalize decide (n = 9) = b2 at *
  generalize decide (n = 13) = b3 at *
  generalize decide (n = 10) = b4 at *
  generalize (n : Int) = z at *
  cases b1 <;> cases b2 <;> cases b3 <;> cases b4
  all_goals
    go_enter Tryz.func48, Tryz.ntmps48
    go_wp2
    go_ret
    exact ⟨rfl, rfl⟩

set_option maxHeartbeats 400000 in
theorem refWord_any (s : ByteArray) (hs : s.size ≤ 9223372036854775807) (w : World) :
    Calls Tryz.prog 50 #[.string s] w fun e w' => e = .returned (.int .i64 (wl (bytes s) : Nat)) ∧ w' = w := by
  have hle := wl_le (bytes s)
  rw [bytes_length] at hle
  have hin : ∀ j, j < wl (bytes s) → wdB (byteAt s j) = true := fun j hj => wl_in (bytes s) j hj
  have hend : wl (bytes s) < s.size → wdB (byteAt s (wl (bytes s))) = false := fun h => wl_end (bytes s) (by rw [bytes_length]; exact h)
  generalize wl (bytes s) = n at *
  have HIN := Lib.hid hin; have HEND := Lib.hid hend
  clear hin hend
  go_enter Tryz.func50, Tryz.ntmps50
  go_wp2_with fail
  go_loopw [3] (fun iv wr => ∃ j : Nat, j ≤ n ∧ iv = .int .i64 (j : Int) ∧ wr = w) (fun iv _ => n - (intOf iv).toNat)
  case atStart => exact ⟨0, Nat.zero_le _, rfl, rfl⟩
  case round =>
    obtain ⟨j, hj, rfl, hw⟩ := hrel
    subst hw
    by_cases hlt : j < s.size
    · have hb := byteAt_get s j hlt
      have hl := letter_any (byteAt s j) (byteAt_lt s j)
      have hd := digit_any (byteAt s j) (byteAt_lt s j)
      have hj0 : (0 : Int) ≤ (j : Int) := by omega
      have hj1 : (j : Int) < (s.size : Int) := by omega
      by_cases hjn : j < n
      · have hwd := HIN.out j hjn
        unfold wdB at hwd
        generalize decide (cls (byteAt s j) = 3) = v3 at *
        generalize decide (cls (byteAt s j) = 4) = v4 at *
        generalize byteAt s j = b at *
        have KL := Lib.hid hl; have KD := Lib.hid hd; clear hl hd
        cases v3
        · obtain rfl : v4 = true := by simpa using hwd
          clear hwd
          go_wp2_with (go_at_call 90; refine (KL.out _).mono ?_; rintro e w3 ⟨rfl, h⟩; subst h; refine Hid.out ?_)
          refine Lib.hid ?_
          go_wp2_with (go_at_call 52; refine (KD.out _).mono ?_; rintro e w3 ⟨rfl, h⟩; subst h; refine Hid.out ?_)
          refine Lib.hid ?_
          go_wp2
          go_roundw
          case rel => exact ⟨j + 1, by omega, by go_num, by trivial⟩
          case measure => simp [intOf]; omega
        · clear hwd
          go_wp2_with (go_at_call 90; refine (KL.out _).mono ?_; rintro e w3 ⟨rfl, h⟩; subst h; refine Hid.out ?_)
          refine Lib.hid ?_
          go_wp2
          go_roundw
          case rel => exact ⟨j + 1, by omega, by go_num, by trivial⟩
          case measure => simp [intOf]; omega
      · obtain rfl : j = n := by omega
        have hwd := HEND.out hlt
        unfold wdB at hwd
        rw [Bool.or_eq_false_iff] at hwd
        obtain ⟨q3, q4⟩ := hwd
        rw [q3] at hl
        rw [q4] at hd
        generalize byteAt s j = b at *
        have KL := Lib.hid hl; have KD := Lib.hid hd; clear hl hd q3 q4
        go_wp2_with (go_at_call 90; refine (KL.out _).mono ?_; rintro e w3 ⟨rfl, h⟩; subst h; refine Hid.out ?_)
        refine Lib.hid ?_
        go_wp2_with (go_at_call 52; refine (KD.out _).mono ?_; rintro e w3 ⟨rfl, h⟩; subst h; refine Hid.out ?_)
        refine Lib.hid ?_
        go_wp2
        go_ret
        exact ⟨rfl, rfl⟩
    · obtain rfl : j = n := by omega
      have hge : ¬ (j : Int) < (s.size : Int) := by omega
      go_wp2
      go_ret
      exact ⟨rfl, rfl⟩

theorem numErr_bad {s : ByteArray} {j : Nat} (hj : j < s.size) (h : cls (byteAt s j) ≠ 4) : numErr (bytes s) = 4 := by
  have e : adB (bytes s) = false := by
    unfold adB
    rw [Bool.and_eq_false_iff]
    refine .inl (List.all_eq_false.2 ⟨(bytes s)[j]'hj, List.getElem_mem _, ?_⟩)
    rw [← byteAt_idx hj]
    unfold dgB
    simpa using h
  unfold numErr
  rw [e, if_neg (by simp)]
theorem numErr_good {s : ByteArray} (h : ∀ j, j < s.size → cls (byteAt s j) = 4) : numErr (bytes s) = if s.size = 0 then 4 else if byteAt s 0 = 48 ∧ 1 < s.size then 3 else if 100 < s.size then 10 else 0 := by
  have e : adB (bytes s) = !decide (s.size = 0) := by
    unfold adB
    have : ((bytes s).all fun c => dgB c.toNat) = true := by
      rw [List.all_eq_true]
      intro c hc
      obtain ⟨j, hj, rfl⟩ := List.mem_iff_getElem.1 hc
      have := h j hj
      rw [byteAt_idx hj] at this
      unfold dgB
      rw [this]; rfl
    rw [this, Bool.true_and]
    show (!(bytes s).isEmpty) = !decide ((bytes s).length = 0)
    cases bytes s <;> simp
  unfold numErr
  rw [e]
  by_cases hz : s.size = 0
  · rw [if_neg (by simp [hz]), if_pos hz]
  · rw [if_pos (by simp [hz]), if_neg hz]
    rfl

set_option maxHeartbeats 400000 in
theorem refNumber_any (s : ByteArray) (hs : s.size ≤ 9223372036854775807) (w : World) :
    Calls Tryz.prog 91 #[.string s] w fun e w' => e = .returned (.int .i64 (numErr (bytes s) : Nat)) ∧ w' = w := by
  have hbad := fun j hj h => numErr_bad (s := s) (j := j) hj h
  have hgood := fun h => numErr_good (s := s) h
  generalize numErr (bytes s) = r at *
  have HBAD := Lib.hid hbad; have HGOOD := Lib.hid hgood
  clear hbad hgood
  go_enter Tryz.func91, Tryz.ntmps91
  go_wp2_with fail
  go_loopw [3] (fun iv wr => ∃ j : Nat, j ≤ s.size ∧ iv = .int .i64 (j : Int) ∧ (∀ i, i < j → cls (byteAt s i) = 4) ∧ wr = w) (fun iv _ => s.size - (intOf iv).toNat)
  case atStart => exact ⟨0, Nat.zero_le _, rfl, fun i h => absurd h (Nat.not_lt_zero _), rfl⟩
  case round =>
    obtain ⟨j, hj, rfl, hg, hw⟩ := hrel
    subst hw
    by_cases hlt : j < s.size
    · have hb := byteAt_get s j hlt
      have hd := digit_any (byteAt s j) (byteAt_lt s j)
      have hj0 : (0 : Int) ≤ (j : Int) := by omega
      have hj1 : (j : Int) < (s.size : Int) := by omega
      have ej : wrap64 ((j : Int) + 1) = (j : Int) + 1 := by unfold wrap64; omega
      have hbad := HBAD.out j hlt
      have hstep : cls (byteAt s j) = 4 → ∀ i, i < j + 1 → cls (byteAt s i) = 4 := fun h i hi => by
        rcases Nat.lt_or_ge i j with q | q
        · exact hg i q
        · obtain rfl : i = j := by omega
          exact h
      by_cases h4 : cls (byteAt s j) = 4
      · have hg2 := hstep h4
        rw [decide_eq_true h4] at hd
        generalize byteAt s j = b at *
        have KD := Lib.hid hd; have HG2 := Lib.hid hg2; have HJ := Lib.hid hlt
        clear hd hg2 hstep hg hbad h4 hj
        go_wp2_with (go_at_call 52; refine (KD.out _).mono ?_; rintro e w3 ⟨rfl, h⟩; subst h; refine Hid.out ?_)
        refine Lib.hid ?_
        go_wp2
        go_roundw
        case rel => exact ⟨j + 1, HJ.out, by first | exact congrArg (Value.int .i64) (Int.natCast_add j 1).symm | exact congrArg (Value.int .i64) (ej.trans (Int.natCast_add j 1).symm), HG2.out, by trivial⟩
        case measure => have := HJ.out; show s.size - ((j : Int) + 1).toNat < s.size - ((j : Int)).toNat; omega
      · have hr := hbad h4
        rw [decide_eq_false h4] at hd
        generalize byteAt s j = b at *
        have KD := Lib.hid hd; have HR := Lib.hid hr
        clear hd hstep hg hbad h4 hj hr
        go_wp2_with (go_at_call 52; refine (KD.out _).mono ?_; rintro e w3 ⟨rfl, h⟩; subst h; refine Hid.out ?_)
        refine Lib.hid ?_
        go_wp2
        go_ret
        exact ⟨by rw [HR.out]; rfl, rfl⟩
    · obtain rfl : j = s.size := by omega
      have hr := HGOOD.out hg
      have hge : ¬ (s.size : Int) < (s.size : Int) := by omega
      clear hg hlt hj
      by_cases hz : s.size = 0
      · rw [if_pos hz] at hr
        obtain rfl := empty_of_size hz
        have HR := Lib.hid hr; clear hr hz hge
        go_wp2
        go_ret
        exact ⟨by rw [HR.out]; rfl, rfl⟩
      · rw [if_neg hz] at hr
        have hp : 0 < s.size := by omega
        have hb := byteAt_get s 0 hp
        have g2 : (0 : Int) < (s.size : Int) := by omega
        have bz : ((s.size : Int) == 0) = false := by rw [beq_eq_false_iff_ne]; omega
        generalize byteAt s 0 = b at *
        by_cases h48 : b = 48
        · subst h48
          by_cases h1 : 1 < s.size
          · rw [if_pos ⟨rfl, h1⟩] at hr
            have g1 : decide ((1 : Int) < (s.size : Int)) = true := by rw [decide_eq_true_iff]; omega
            have HR := Lib.hid hr; have H1 := Lib.hid h1; have HZ := Lib.hid hz; clear hr h1 hz hge
            go_wp2
            go_ret
            exact ⟨by rw [HR.out]; rfl, rfl⟩
          · rw [if_neg (by omega), if_neg (by omega)] at hr
            have g1 : decide ((1 : Int) < (s.size : Int)) = false := by rw [decide_eq_false_iff_not]; omega
            have g3 : decide ((100 : Int) < (s.size : Int)) = false := by rw [decide_eq_false_iff_not]; omega
            have HR := Lib.hid hr; have H1 := Lib.hid h1; have HZ := Lib.hid hz; clear hr h1 hz hge
            go_wp2
            go_ret
            exact ⟨by rw [HR.out]; rfl, rfl⟩
        · have n48 : ((b : Int) == 48) = false := by rw [beq_eq_false_iff_ne]; omega
          rw [if_neg (by omega)] at hr
          by_cases h1 : 100 < s.size
          · rw [if_pos h1] at hr
            have g1 : decide ((100 : Int) < (s.size : Int)) = true := by rw [decide_eq_true_iff]; omega
            have HR := Lib.hid hr; have H1 := Lib.hid h1; have HZ := Lib.hid hz; have H48 := Lib.hid h48; clear hr h1 hz hge h48
            go_wp2
            go_ret
            exact ⟨by rw [HR.out]; rfl, rfl⟩
          · rw [if_neg h1] at hr
            have g1 : decide ((100 : Int) < (s.size : Int)) = false := by rw [decide_eq_false_iff_not]; omega
            have HR := Lib.hid hr; have H1 := Lib.hid h1; have HZ := Lib.hid hz; have H48 := Lib.hid h48; clear hr h1 hz hge h48
            go_wp2
            go_ret
            exact ⟨by rw [HR.out]; rfl, rfl⟩
end Go.Proofs.YtdibcllakkjegaaGreatDoor

/-
  surveyorref08: word, Comment.
-/
set_option linter.unusedSimpArgs false
set_option linter.unusedVariables false
namespace Go.Proofs.YtdibcllakkjegaaGreatDoor
open Go Go.Proofs Go.RowKit

theorem refword_any (s : ByteArray) (h0 : 0 < s.size) (hs : s.size ≤ 9223372036854775807) (w : World) :
    Calls Tryz.prog 51 #[.string s] w fun e w' => e = .returned (.int .i64 (wdE s : Nat)) ∧ w' = w := by
  have CN := refNumber_any s hs w
  have hd := digit_any (byteAt s 0) (byteAt_lt s 0) w
  have hb := byteAt_get s 0 h0
  have g2 : (0 : Int) < (s.size : Int) := by omega
  unfold wdE
  by_cases h4 : cls (byteAt s 0) = 4
  · rw [if_pos h4]
    rw [decide_eq_true h4] at hd
    generalize numErr (bytes s) = r at *
    generalize byteAt s 0 = b at *
    have KN := Lib.hid CN; have KD := Lib.hid hd; have H4 := Lib.hid h4
    clear CN hd h4
    go_enter Tryz.func51, Tryz.ntmps51
    go_wp2_with (go_at_call 52; refine KD.out.mono ?_; rintro e w3 ⟨rfl, h⟩; subst h; refine Hid.out ?_)
    refine Lib.hid ?_
    go_wp2_with (go_at_call 91; refine KN.out.mono ?_; rintro e w3 ⟨rfl, h⟩; subst h; refine Hid.out ?_)
    refine Lib.hid ?_
    go_wp2
    go_ret
    exact ⟨rfl, rfl⟩
  · rw [if_neg h4]
    rw [decide_eq_false h4] at hd
    generalize byteAt s 0 = b at *
    have KD := Lib.hid hd; have H4 := Lib.hid h4
    clear CN hd h4
    by_cases h24 : 24 < s.size
    · rw [if_pos h24]
      have g1 : decide ((24 : Int) < (s.size : Int)) = true := by rw [decide_eq_true_iff]; omega
      have H24 := Lib.hid h24; clear h24
      go_enter Tryz.func51, Tryz.ntmps51
      go_wp2_with (go_at_call 52; refine KD.out.mono ?_; rintro e w3 ⟨rfl, h⟩; subst h; refine Hid.out ?_)
      refine Lib.hid ?_
      go_wp2
      go_ret
      exact ⟨rfl, rfl⟩
    · rw [if_neg h24]
      have g1 : decide ((24 : Int) < (s.size : Int)) = false := by rw [decide_eq_false_iff_not]; omega
      have H24 := Lib.hid h24; clear h24
      go_enter Tryz.func51, Tryz.ntmps51
      go_wp2_with (go_at_call 52; refine KD.out.mono ?_; rintro e w3 ⟨rfl, h⟩; subst h; refine Hid.out ?_)
      refine Lib.hid ?_
      go_wp2
      go_ret
      exact ⟨rfl, rfl⟩

/-- The length of the comment at the beginning. -/
def cmL (s : ByteArray) : Nat := if 0 < s.size ∧ byteAt s 0 = 35 then (upTo 10 (bytes s)).length else 0
theorem upTo_in (c : UInt8) : ∀ (l : List UInt8) (j : Nat), j < (upTo c l).length → (l.getD j 0) ≠ c
  | [], j, h => by simp [upTo] at h
  | d :: l, j, h => by
    unfold upTo at h
    rw [List.takeWhile_cons] at h
    split at h
    · rename_i hc
      cases j with
      | zero => simpa using hc
      | succ j => exact upTo_in c l j (by simpa [upTo] using h)
    · simp at h
theorem upTo_end (c : UInt8) : ∀ (l : List UInt8), (upTo c l).length < l.length → (l.getD (upTo c l).length 0) = c
  | [], h => by simp at h
  | d :: l, h => by
    unfold upTo at h ⊢
    rw [List.takeWhile_cons] at h ⊢
    split at h
    · rename_i hc
      rw [if_pos hc]
      exact upTo_end c l (by simpa [upTo] using h)
    · rename_i hc
      rw [if_neg hc]
      simpa using hc

set_option maxHeartbeats 400000 in
theorem comment_any (s : ByteArray) (hs : s.size ≤ 9223372036854775807) (w : World) :
    Calls Tryz.prog 49 #[.string s] w fun e w' => e = .returned (.int .i64 (cmL s : Nat)) ∧ w' = w := by
  unfold cmL
  by_cases hz : s.size = 0
  · obtain rfl := empty_of_size hz
    rw [if_neg (by rintro ⟨h, -⟩; omega)]
    clear hz hs
    go_enter Tryz.func49, Tryz.ntmps49
    go_wp2
    go_ret
    exact ⟨rfl, rfl⟩
  have hp : 0 < s.size := by omega
  have hb := byteAt_get s 0 hp
  have g2 : (0 : Int) < (s.size : Int) := by omega
  have bz : ((s.size : Int) == 0) = false := by rw [beq_eq_false_iff_ne]; omega
  by_cases h35 : byteAt s 0 = 35
  · rw [if_pos ⟨hp, h35⟩]
    have hle := upTo_le 10 (bytes s)
    rw [bytes_length] at hle
    have hin : ∀ j, j < (upTo 10 (bytes s)).length → byteAt s j ≠ 10 := fun j hj e => upTo_in 10 (bytes s) j hj (UInt8.toNat.inj e)
    have hend : (upTo 10 (bytes s)).length < s.size → byteAt s (upTo 10 (bytes s)).length = 10 := fun h => congrArg UInt8.toNat (upTo_end 10 (bytes s) (by rw [bytes_length]; exact h))
    rw [h35] at hb
    generalize (upTo 10 (bytes s)).length = n at *
    have HIN := Lib.hid hin; have HEND := Lib.hid hend; have H35 := Lib.hid h35; have HZ := Lib.hid hz
    clear hin hend h35 hz
    go_enter Tryz.func49, Tryz.ntmps49
    go_wp2_with fail
    go_loopw [3] (fun iv wr => ∃ j : Nat, j ≤ n ∧ iv = .int .i64 (j : Int) ∧ wr = w) (fun iv _ => n - (intOf iv).toNat)
    case atStart => exact ⟨0, Nat.zero_le _, rfl, rfl⟩
    case round =>
      obtain ⟨j, hj, rfl, hw⟩ := hrel
      subst hw
      by_cases hlt : j < s.size
      · have hbj := byteAt_get s j hlt
        have hj0 : (0 : Int) ≤ (j : Int) := by omega
        have hj1 : (j : Int) < (s.size : Int) := by omega
        by_cases hjn : j < n
        · have h10 := HIN.out j hjn
          generalize byteAt s j = c at *
          have n10 : ((c : Int) == 10) = false := by rw [beq_eq_false_iff_ne]; omega
          have m10 : ((c : Int) != 10) = true := by rw [bne_iff_ne]; omega
          have H10 := Lib.hid h10; clear h10
          go_wp2
          go_roundw
          case rel => exact ⟨j + 1, by omega, by go_num, by trivial⟩
          case measure => simp [intOf]; omega
        · obtain rfl : j = n := by omega
          have h10 := HEND.out hlt
          rw [h10] at hbj
          have H10 := Lib.hid h10; clear h10
          go_wp2
          go_ret
          exact ⟨rfl, rfl⟩
      · obtain rfl : j = n := by omega
        have hge : decide ((j : Int) < (s.size : Int)) = false := by rw [decide_eq_false_iff_not]; omega
        go_wp2
        go_ret
        exact ⟨rfl, rfl⟩
  · rw [if_neg (by rintro ⟨-, h⟩; exact h35 h)]
    generalize byteAt s 0 = b at *
    have n35 : ((b : Int) == 35) = false := by rw [beq_eq_false_iff_ne]; omega
    have m35 : ((b : Int) != 35) = true := by rw [bne_iff_ne]; omega
    have H35 := Lib.hid h35; have HZ := Lib.hid hz
    clear h35 hz
    go_enter Tryz.func49, Tryz.ntmps49
    go_wp2
    go_ret
    exact ⟨rfl, rfl⟩
end Go.Proofs.YtdibcllakkjegaaGreatDoor

/-
  surveyorref08.Sign.
-/
set_option linter.unusedSimpArgs false
set_option linter.unusedVariables false
namespace Go.Proofs.YtdibcllakkjegaaGreatDoor
open Go Go.Proofs Go.RowKit

theorem sgIn : ∀ j, j < 18 → decide (cls (byteAt (⟨#[123, 125, 40, 41, 91, 93, 44, 59, 58, 46, 61, 60, 62, 43, 45, 42, 47, 37]⟩ : ByteArray) j) = 5) = true := by decide +kernel
theorem sgAll : ∀ b, b < 256 → cls b = 5 → ∃ j, j < 18 ∧ byteAt (⟨#[123, 125, 40, 41, 91, 93, 44, 59, 58, 46, 61, 60, 62, 43, 45, 42, 47, 37]⟩ : ByteArray) j = b := by decide +kernel
theorem take_two : ∀ (l : List UInt8) (h : 2 ≤ l.length), l.take 2 = [l[0]'(by omega), l[1]'(by omega)]
  | [], h => by simp at h
  | [x], h => by simp at h
  | x :: y :: r, h => rfl
theorem ls_two {s : ByteArray} (h : 2 ≤ s.size) : lsB ((bytes s).take 2) = (decide (byteAt s 1 = 61) && (((decide (byteAt s 0 = 58) || decide (byteAt s 0 = 33)) || decide (byteAt s 0 = 60)) || decide (byteAt s 0 = 62))) := by
  have h0 := byteAt_idx (s := s) (j := 0) (by omega)
  have h1 := byteAt_idx (s := s) (j := 1) (by omega)
  have e := take_two (bytes s) (by rw [bytes_length]; exact h)
  rw [e, h0, h1]
  generalize (bytes s)[0]'_ = x
  generalize (bytes s)[1]'_ = y
  have hk : ∀ (z : UInt8) (n : Nat), n < 256 → decide (z.toNat = n) = (z == UInt8.ofNat n) := fun z n hn => by
    rw [Bool.eq_iff_iff, decide_eq_true_iff, beq_iff_eq]
    constructor
    · intro h; rw [← h]; simp
    · intro h; rw [h]; simp; omega
  rw [hk y 61 (by decide), hk x 58 (by decide), hk x 33 (by decide), hk x 60 (by decide), hk x 62 (by decide)]
  unfold lsB
  show ([x, y] == [58, 61] || [x, y] == [33, 61] || [x, y] == [60, 61] || [x, y] == [62, 61]) = ((y == 61) && (((x == 58) || (x == 33)) || (x == 60) || (x == 62)))
  have hb : ∀ a b : UInt8, ([x, y] == [a, b]) = ((x == a) && (y == b)) := fun a b => by rw [Bool.eq_iff_iff]; simp
  rw [hb, hb, hb, hb]
  cases (y == 61) <;> cases (x == 58) <;> cases (x == 33) <;> cases (x == 60) <;> cases (x == 62) <;> rfl

set_option maxHeartbeats 1000000 in
theorem refSign_any (s : ByteArray) (hs : s.size ≤ 9223372036854775807) (w : World) :
    Calls Tryz.prog 53 #[.string s] w fun e w' => e = .returned (.int .i64 (sl (bytes s) : Nat)) ∧ Below w.heap.size w w' := by
  obtain ⟨r, hr⟩ : ∃ r, sl (bytes s) = r := ⟨_, rfl⟩
  rw [hr]
  unfold sl at hr
  rw [bytes_length, show ((bytes s).getD 0 0).toNat = byteAt s 0 from rfl] at hr
  by_cases hz : s.size = 0
  · obtain rfl := empty_of_size hz
    have hr0 : r = 0 := by rw [← hr, if_neg (by rintro ⟨h, -⟩; omega), if_neg (by rintro ⟨h, -⟩; omega)]
    subst hr0
    clear hr hz hs
    go_enter Tryz.func53, Tryz.ntmps53
    go_wp2_with fail
    go_loopw [4] (fun iv wr => ∃ j : Nat, j ≤ 18 ∧ iv = .int .i64 (j : Int) ∧ Below w.heap.size w wr) (fun iv _ => 18 - (intOf iv).toNat)
    case atStart => exact ⟨0, Nat.zero_le _, rfl, Below.refl _ _⟩
    case round =>
      obtain ⟨j, hj, rfl, hB⟩ := hrel
      by_cases hlt : j < 18
      · have hj1 : (j : Int) < 18 := by omega
        have hj2 : decide ((j : Int) < 18) = true := by rw [decide_eq_true_iff]; omega
        have ej : wrap64 ((j : Int) + 1) = (j : Int) + 1 := by unfold wrap64; omega
        have HB := Lib.hid hB; clear hB
        go_wp2_with fail
        go_quiet (fail)
        go_wp2
        go_roundw
        case rel => exact ⟨j + 1, by omega, by first | exact congrArg (Value.int .i64) (Int.natCast_add j 1).symm | exact congrArg (Value.int .i64) (ej.trans (Int.natCast_add j 1).symm), below_drewN HB.out _⟩
        case measure => first | (show 18 - ((j : Int) + 1).toNat < 18 - ((j : Int)).toNat; omega) | (rw [ej]; show 18 - ((j : Int) + 1).toNat < 18 - ((j : Int)).toNat; omega)
      · obtain rfl : j = 18 := by omega
        have HB := Lib.hid hB; clear hB hlt hj
        go_wp2
        go_ret
        exact ⟨rfl, HB.out⟩
  have hp : 0 < s.size := by omega
  have hb := byteAt_get s 0 hp
  have hbl := byteAt_lt s 0
  have g2 : (0 : Int) < (s.size : Int) := by omega
  have gp : decide ((0 : Int) < (s.size : Int)) = true := by rw [decide_eq_true_iff]; omega
  have gp2 : decide (0 < s.size) = true := by rw [decide_eq_true_iff]; omega
  have hk2 := fun h : 2 ≤ s.size => ls_two h
  have hone : ¬ (2 ≤ s.size ∧ lsB ((bytes s).take 2) = true) → (cls (byteAt s 0) = 5 → r = 1) ∧ (¬ cls (byteAt s 0) = 5 → r = 0) := fun h => by
    rw [if_neg h] at hr
    exact ⟨fun h5 => by rw [← hr, if_pos ⟨hp, h5⟩], fun h5 => by rw [← hr, if_neg (fun q => h5 q.2)]⟩
  have htwo : 2 ≤ s.size ∧ lsB ((bytes s).take 2) = true → r = 2 := fun h => by rw [← hr, if_pos h]
  clear hr
  by_cases h2 : 2 ≤ s.size
  · have g3 : decide ((2 : Int) ≤ (s.size : Int)) = true := by rw [decide_eq_true_iff]; omega
    have g4 : (1 : Int) < (s.size : Int) := by omega
    have hb1 := byteAt_get s 1 (by omega)
    have hl := hk2 h2
    rw [hl] at hone htwo
    generalize byteAt s 0 = b0 at *
    generalize byteAt s 1 = b1 at *
    have a1 : ((b1 : Int) == 61) = decide (b1 = 61) := bI b1 61
    have c1 : ((b0 : Int) == 58) = decide (b0 = 58) := bI b0 58
    have c2 : ((b0 : Int) == 33) = decide (b0 = 33) := bI b0 33
    have c3 : ((b0 : Int) == 60) = decide (b0 = 60) := bI b0 60
    have c4 : ((b0 : Int) == 62) = decide (b0 = 62) := bI b0 62
    have H2S := Lib.hid h2; have HBL := Lib.hid hbl; have HZ := Lib.hid hz; have HP := Lib.hid hp
    generalize decide (b1 = 61) = p at *
    generalize decide (b0 = 58) = q1 at *
    generalize decide (b0 = 33) = q2 at *
    generalize decide (b0 = 60) = q3 at *
    generalize decide (b0 = 62) = q4 at *
    have KO := Lib.hid hone; have KT := Lib.hid htwo
    clear hone htwo hk2 hl
    cases p
    · have hsn := KO.out (by simp)
      have HSN := Lib.hid hsn.2
      have HSL : Hid (decide (cls b0 = 5) = true → r = 1) := Lib.hid (fun h => hsn.1 (of_decide_eq_true h))
      clear hsn KO KT hbl hz
      go_enter Tryz.func53, Tryz.ntmps53
      go_wp2_with fail
      generalize hSG : (⟨#[123, 125, 40, 41, 91, 93, 44, 59, 58, 46, 61, 60, 62, 43, 45, 42, 47, 37]⟩ : ByteArray) = SG at *
      have hsz : SG.size = 18 := by rw [← hSG]; rfl
      have hfb : ∀ j, j < 18 → decide (cls (byteAt SG j) = 5) = true := by rw [← hSG]; exact sgIn
      have hfa : ∀ b, b < 256 → cls b = 5 → ∃ j, j < 18 ∧ byteAt SG j = b := by rw [← hSG]; exact sgAll
      have HSZ := Lib.hid hsz; have HFB := Lib.hid hfb; have HFA := Lib.hid hfa
      clear hSG hfb hfa hsz
      go_loopw [4] (fun iv wr => ∃ j : Nat, j ≤ 18 ∧ iv = .int .i64 (j : Int) ∧ (∀ i, i < j → byteAt SG i ≠ b0) ∧ Below w.heap.size w wr) (fun iv _ => 18 - (intOf iv).toNat)
      case atStart => exact ⟨0, Nat.zero_le _, rfl, fun i h => absurd h (Nat.not_lt_zero _), Below.refl _ _⟩
      case round =>
        obtain ⟨j, hj, rfl, hg, hB⟩ := hrel
        by_cases hlt : j < 18
        · have hjs : j < SG.size := by rw [HSZ.out]; exact hlt
          have hbj := byteAt_get SG j hjs
          have hj0 : (0 : Int) ≤ (j : Int) := by omega
          have hj1 : (j : Int) < (SG.size : Int) := by omega
          have ej : wrap64 ((j : Int) + 1) = (j : Int) + 1 := by unfold wrap64; omega
          have hfb := HFB.out j hlt
          have hstep : byteAt SG j ≠ b0 → ∀ i, i < j + 1 → byteAt SG i ≠ b0 := fun h i hi => by
            rcases Nat.lt_or_ge i j with q | q
            · exact hg i q
            · obtain rfl : i = j := by omega
              exact h
          generalize byteAt SG j = c at *
          by_cases hc : c = b0
          · subst hc
            have hr : decide (cls c = 5) = true := hfb
            have HR := Lib.hid (HSL.out hr); have HB := Lib.hid hB
            clear hr hstep hg hj hfb hB
            go_wp2_with fail
            go_quiet (fail)
            go_wp2
            go_ret
            exact ⟨by rw [HR.out]; rfl, below_drewN HB.out _⟩
          · have hg2 := hstep hc
            have nc : ((b0 : Int) == (c : Int)) = false := by rw [beq_eq_false_iff_ne]; omega
            have HG2 := Lib.hid hg2; have HC := Lib.hid hc; have HB := Lib.hid hB
            clear hstep hg hg2 hc hj hfb hB
            go_wp2_with fail
            go_quiet (fail)
            go_wp2
            go_roundw
            case rel => exact ⟨j + 1, by omega, by first | exact congrArg (Value.int .i64) (Int.natCast_add j 1).symm | exact congrArg (Value.int .i64) (ej.trans (Int.natCast_add j 1).symm), HG2.out, below_drewN HB.out _⟩
            case measure => first | (show 18 - ((j : Int) + 1).toNat < 18 - ((j : Int)).toNat; omega) | (rw [ej]; show 18 - ((j : Int) + 1).toNat < 18 - ((j : Int)).toNat; omega)
        · obtain rfl : j = 18 := by omega
          have hne : ¬ cls b0 = 5 := fun h => by
            obtain ⟨i, hi, e⟩ := HFA.out b0 HBL.out h
            exact hg i hi e
          have HR := Lib.hid (HSN.out hne); have HB := Lib.hid hB
          have hge : decide ((18 : Int) < (SG.size : Int)) = false := by rw [HSZ.out]; decide
          clear hg hne hB hlt hj
          go_wp2
          go_ret
          exact ⟨by rw [HR.out]; rfl, HB.out⟩
    · cases q1
      · cases q2
        · cases q3
          · cases q4
            · have hsn := KO.out (by simp)
              have HSN := Lib.hid hsn.2
              have HSL : Hid (decide (cls b0 = 5) = true → r = 1) := Lib.hid (fun h => hsn.1 (of_decide_eq_true h))
              clear hsn KO KT hbl hz
              go_enter Tryz.func53, Tryz.ntmps53
              go_wp2_with fail
              generalize hSG : (⟨#[123, 125, 40, 41, 91, 93, 44, 59, 58, 46, 61, 60, 62, 43, 45, 42, 47, 37]⟩ : ByteArray) = SG at *
              have hsz : SG.size = 18 := by rw [← hSG]; rfl
              have hfb : ∀ j, j < 18 → decide (cls (byteAt SG j) = 5) = true := by rw [← hSG]; exact sgIn
              have hfa : ∀ b, b < 256 → cls b = 5 → ∃ j, j < 18 ∧ byteAt SG j = b := by rw [← hSG]; exact sgAll
              have HSZ := Lib.hid hsz; have HFB := Lib.hid hfb; have HFA := Lib.hid hfa
              clear hSG hfb hfa hsz
              go_loopw [4] (fun iv wr => ∃ j : Nat, j ≤ 18 ∧ iv = .int .i64 (j : Int) ∧ (∀ i, i < j → byteAt SG i ≠ b0) ∧ Below w.heap.size w wr) (fun iv _ => 18 - (intOf iv).toNat)
              case atStart => exact ⟨0, Nat.zero_le _, rfl, fun i h => absurd h (Nat.not_lt_zero _), Below.refl _ _⟩
              case round =>
                obtain ⟨j, hj, rfl, hg, hB⟩ := hrel
                by_cases hlt : j < 18
                · have hjs : j < SG.size := by rw [HSZ.out]; exact hlt
                  have hbj := byteAt_get SG j hjs
                  have hj0 : (0 : Int) ≤ (j : Int) := by omega
                  have hj1 : (j : Int) < (SG.size : Int) := by omega
                  have ej : wrap64 ((j : Int) + 1) = (j : Int) + 1 := by unfold wrap64; omega
                  have hfb := HFB.out j hlt
                  have hstep : byteAt SG j ≠ b0 → ∀ i, i < j + 1 → byteAt SG i ≠ b0 := fun h i hi => by
                    rcases Nat.lt_or_ge i j with q | q
                    · exact hg i q
                    · obtain rfl : i = j := by omega
                      exact h
                  generalize byteAt SG j = c at *
                  by_cases hc : c = b0
                  · subst hc
                    have hr : decide (cls c = 5) = true := hfb
                    have HR := Lib.hid (HSL.out hr); have HB := Lib.hid hB
                    clear hr hstep hg hj hfb hB
                    go_wp2_with fail
                    go_quiet (fail)
                    go_wp2
                    go_ret
                    exact ⟨by rw [HR.out]; rfl, below_drewN HB.out _⟩
                  · have hg2 := hstep hc
                    have nc : ((b0 : Int) == (c : Int)) = false := by rw [beq_eq_false_iff_ne]; omega
                    have HG2 := Lib.hid hg2; have HC := Lib.hid hc; have HB := Lib.hid hB
                    clear hstep hg hg2 hc hj hfb hB
                    go_wp2_with fail
                    go_quiet (fail)
                    go_wp2
                    go_roundw
                    case rel => exact ⟨j + 1, by omega, by first | exact congrArg (Value.int .i64) (Int.natCast_add j 1).symm | exact congrArg (Value.int .i64) (ej.trans (Int.natCast_add j 1).symm), HG2.out, below_drewN HB.out _⟩
                    case measure => first | (show 18 - ((j : Int) + 1).toNat < 18 - ((j : Int)).toNat; omega) | (rw [ej]; show 18 - ((j : Int) + 1).toNat < 18 - ((j : Int)).toNat; omega)
                · obtain rfl : j = 18 := by omega
                  have hne : ¬ cls b0 = 5 := fun h => by
                    obtain ⟨i, hi, e⟩ := HFA.out b0 HBL.out h
                    exact hg i hi e
                  have HR := Lib.hid (HSN.out hne); have HB := Lib.hid hB
                  have hge : decide ((18 : Int) < (SG.size : Int)) = false := by rw [HSZ.out]; decide
                  clear hg hne hB hlt hj
                  go_wp2
                  go_ret
                  exact ⟨by rw [HR.out]; rfl, HB.out⟩
            · have H2 := Lib.hid (KT.out ⟨H2S.out, rfl⟩); clear KO KT hbl hz
              go_enter Tryz.func53, Tryz.ntmps53
              go_wp2
              go_ret
              exact ⟨by rw [H2.out]; rfl, Below.refl _ _⟩
          · have H2 := Lib.hid (KT.out ⟨H2S.out, by simp⟩); clear KO KT hbl hz
            go_enter Tryz.func53, Tryz.ntmps53
            go_wp2
            go_ret
            exact ⟨by rw [H2.out]; rfl, Below.refl _ _⟩
        · have H2 := Lib.hid (KT.out ⟨H2S.out, by simp⟩); clear KO KT hbl hz
          go_enter Tryz.func53, Tryz.ntmps53
          go_wp2
          go_ret
          exact ⟨by rw [H2.out]; rfl, Below.refl _ _⟩
      · have H2 := Lib.hid (KT.out ⟨H2S.out, by simp⟩); clear KO KT hbl hz
        go_enter Tryz.func53, Tryz.ntmps53
        go_wp2
        go_ret
        exact ⟨by rw [H2.out]; rfl, Below.refl _ _⟩
  · have g3 : decide ((2 : Int) ≤ (s.size : Int)) = false := by rw [decide_eq_false_iff_not]; omega
    generalize byteAt s 0 = b0 at *
    have hsn := hone (fun h => h2 h.1)
    have HSN := Lib.hid hsn.2
    have HSL : Hid (decide (cls b0 = 5) = true → r = 1) := Lib.hid (fun h => hsn.1 (of_decide_eq_true h))
    have HBL := Lib.hid hbl; have HZ := Lib.hid hz; have HP := Lib.hid hp; have HH2 := Lib.hid h2
    clear hsn hone htwo hk2 h2 hbl hz
    go_enter Tryz.func53, Tryz.ntmps53
    go_wp2_with fail
    generalize hSG : (⟨#[123, 125, 40, 41, 91, 93, 44, 59, 58, 46, 61, 60, 62, 43, 45, 42, 47, 37]⟩ : ByteArray) = SG at *
    have hsz : SG.size = 18 := by rw [← hSG]; rfl
    have hfb : ∀ j, j < 18 → decide (cls (byteAt SG j) = 5) = true := by rw [← hSG]; exact sgIn
    have hfa : ∀ b, b < 256 → cls b = 5 → ∃ j, j < 18 ∧ byteAt SG j = b := by rw [← hSG]; exact sgAll
    have HSZ := Lib.hid hsz; have HFB := Lib.hid hfb; have HFA := Lib.hid hfa
    clear hSG hfb hfa hsz
    go_loopw [4] (fun iv wr => ∃ j : Nat, j ≤ 18 ∧ iv = .int .i64 (j : Int) ∧ (∀ i, i < j → byteAt SG i ≠ b0) ∧ Below w.heap.size w wr) (fun iv _ => 18 - (intOf iv).toNat)
    case atStart => exact ⟨0, Nat.zero_le _, rfl, fun i h => absurd h (Nat.not_lt_zero _), Below.refl _ _⟩
    case round =>
      obtain ⟨j, hj, rfl, hg, hB⟩ := hrel
      by_cases hlt : j < 18
      · have hjs : j < SG.size := by rw [HSZ.out]; exact hlt
        have hbj := byteAt_get SG j hjs
        have hj0 : (0 : Int) ≤ (j : Int) := by omega
        have hj1 : (j : Int) < (SG.size : Int) := by omega
        have ej : wrap64 ((j : Int) + 1) = (j : Int) + 1 := by unfold wrap64; omega
        have hfb := HFB.out j hlt
        have hstep : byteAt SG j ≠ b0 → ∀ i, i < j + 1 → byteAt SG i ≠ b0 := fun h i hi => by
          rcases Nat.lt_or_ge i j with q | q
          · exact hg i q
          · obtain rfl : i = j := by omega
            exact h
        generalize byteAt SG j = c at *
        by_cases hc : c = b0
        · subst hc
          have hr : decide (cls c = 5) = true := hfb
          have HR := Lib.hid (HSL.out hr); have HB := Lib.hid hB
          clear hr hstep hg hj hfb hB
          go_wp2_with fail
          go_quiet (fail)
          go_wp2
          go_ret
          exact ⟨by rw [HR.out]; rfl, below_drewN HB.out _⟩
        · have hg2 := hstep hc
          have nc : ((b0 : Int) == (c : Int)) = false := by rw [beq_eq_false_iff_ne]; omega
          have HG2 := Lib.hid hg2; have HC := Lib.hid hc; have HB := Lib.hid hB
          clear hstep hg hg2 hc hj hfb hB
          go_wp2_with fail
          go_quiet (fail)
          go_wp2
          go_roundw
          case rel => exact ⟨j + 1, by omega, by first | exact congrArg (Value.int .i64) (Int.natCast_add j 1).symm | exact congrArg (Value.int .i64) (ej.trans (Int.natCast_add j 1).symm), HG2.out, below_drewN HB.out _⟩
          case measure => first | (show 18 - ((j : Int) + 1).toNat < 18 - ((j : Int)).toNat; omega) | (rw [ej]; show 18 - ((j : Int) + 1).toNat < 18 - ((j : Int)).toNat; omega)
      · obtain rfl : j = 18 := by omega
        have hne : ¬ cls b0 = 5 := fun h => by
          obtain ⟨i, hi, e⟩ := HFA.out b0 HBL.out h
          exact hg i hi e
        have HR := Lib.hid (HSN.out hne); have HB := Lib.hid hB
        have hge : decide ((18 : Int) < (SG.size : Int)) = false := by rw [HSZ.out]; decide
        clear hg hne hB hlt hj
        go_wp2
        go_ret
        exact ⟨by rw [HR.out]; rfl, HB.out⟩
end Go.Proofs.YtdibcllakkjegaaGreatDoor

