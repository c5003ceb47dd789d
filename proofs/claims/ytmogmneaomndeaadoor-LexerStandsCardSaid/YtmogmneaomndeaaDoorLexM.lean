/-
  surveyorref08: word, Comment.
-/
import Derived.Test.YtmogmneaomndeaaDoorLexL
import Derived.WalkMore
set_option linter.unusedSimpArgs false
set_option linter.unusedVariables false
namespace Go.Proofs.YtmogmneaomndeaaDoor
open Go Go.Proofs Go.RowKit

/-- The error of a word that is not empty. -/
def wdE (s : ByteArray) : Nat := if cls (byteAt s 0) = 4 then numErr (bytes s) else if 24 < s.size then 8 else 0
theorem refword_any (s : ByteArray) (h0 : 0 < s.size) (hs : s.size ≤ 9223372036854775807) (w : World) :
    Calls Tryd.prog 42 #[.string s] w fun e w' => e = .returned (.int .i64 (wdE s : Nat)) ∧ w' = w := by
  have CN := refNumber_any s hs w
  have hd := digit_any (byteAt s 0) (byteAt_lt s 0) w
  have hb := byteAt_get s 0 h0
  have g2 : (0 : Int) < (s.size : Int) := by omega
  unfold wdE
  by_cases h4 : cls (byteAt s 0) = 4
  · rw [if_pos h4]
    rw [decide_eq_true h4] at hd
    generalize numErr (bytes s) = r at *
    generalize byteAt s 0 = b at *
    have KN := Lib.hid CN; have KD := Lib.hid hd; have H4 := Lib.hid h4
    clear CN hd h4
    go_enter Tryd.func42, Tryd.ntmps42
    go_wp2_with (go_at_call 43; refine KD.out.mono ?_; rintro e w3 ⟨rfl, h⟩; subst h; refine Hid.out ?_)
    refine Lib.hid ?_
    go_wp2_with (go_at_call 21; refine KN.out.mono ?_; rintro e w3 ⟨rfl, h⟩; subst h; refine Hid.out ?_)
    refine Lib.hid ?_
    go_wp2
    go_ret
    exact ⟨rfl, rfl⟩
  · rw [if_neg h4]
    rw [decide_eq_false h4] at hd
    generalize byteAt s 0 = b at *
    have KD := Lib.hid hd; have H4 := Lib.hid h4
    clear CN hd h4
    by_cases h24 : 24 < s.size
    · rw [if_pos h24]
      have g1 : decide ((24 : Int) < (s.size : Int)) = true := by rw [decide_eq_true_iff]; omega
      have H24 := Lib.hid h24; clear h24
      go_enter Tryd.func42, Tryd.ntmps42
      go_wp2_with (go_at_call 43; refine KD.out.mono ?_; rintro e w3 ⟨rfl, h⟩; subst h; refine Hid.out ?_)
      refine Lib.hid ?_
      go_wp2
      go_ret
      exact ⟨rfl, rfl⟩
    · rw [if_neg h24]
      have g1 : decide ((24 : Int) < (s.size : Int)) = false := by rw [decide_eq_false_iff_not]; omega
      have H24 := Lib.hid h24; clear h24
      go_enter Tryd.func42, Tryd.ntmps42
      go_wp2_with (go_at_call 43; refine KD.out.mono ?_; rintro e w3 ⟨rfl, h⟩; subst h; refine Hid.out ?_)
      refine Lib.hid ?_
      go_wp2
      go_ret
      exact ⟨rfl, rfl⟩

/-- The length of the comment at the beginning. -/
def cmL (s : ByteArray) : Nat := if 0 < s.size ∧ byteAt s 0 = 35 then (upTo 10 (bytes s)).length else 0
theorem upTo_in (c : UInt8) : ∀ (l : List UInt8) (j : Nat), j < (upTo c l).length → (l.getD j 0) ≠ c
  | [], j, h => by simp [upTo] at h
  | d :: l, j, h => by
    unfold upTo at h
    rw [List.takeWhile_cons] at h
    split at h
    · rename_i hc
      cases j with
      | zero => simpa using hc
      | succ j => exact upTo_in c l j (by simpa [upTo] using h)
    · simp at h
theorem upTo_end (c : UInt8) : ∀ (l : List UInt8), (upTo c l).length < l.length → (l.getD (upTo c l).length 0) = c
  | [], h => by simp at h
  | d :: l, h => by
    unfold upTo at h ⊢
    rw [List.takeWhile_cons] at h ⊢
    split at h
    · rename_i hc
      rw [if_pos hc]
      exact upTo_end c l (by simpa [upTo] using h)
    · rename_i hc
      rw [if_neg hc]
      simpa using hc

set_option maxHeartbeats 400000 in
theorem comment_any (s : ByteArray) (hs : s.size ≤ 9223372036854775807) (w : World) :
    Calls Tryd.prog 40 #[.string s] w fun e w' => e = .returned (.int .i64 (cmL s : Nat)) ∧ w' = w := by
  unfold cmL
  by_cases hz : s.size = 0
  · obtain rfl := empty_of_size hz
    rw [if_neg (by rintro ⟨h, -⟩; omega)]
    clear hz hs
    go_enter Tryd.func40, Tryd.ntmps40
    go_wp2
    go_ret
    exact ⟨rfl, rfl⟩
  have hp : 0 < s.size := by omega
  have hb := byteAt_get s 0 hp
  have g2 : (0 : Int) < (s.size : Int) := by omega
  have bz : ((s.size : Int) == 0) = false := by rw [beq_eq_false_iff_ne]; omega
  by_cases h35 : byteAt s 0 = 35
  · rw [if_pos ⟨hp, h35⟩]
    have hle := upTo_le 10 (bytes s)
    rw [bytes_length] at hle
    have hin : ∀ j, j < (upTo 10 (bytes s)).length → byteAt s j ≠ 10 := fun j hj e => upTo_in 10 (bytes s) j hj (UInt8.toNat.inj e)
    have hend : (upTo 10 (bytes s)).length < s.size → byteAt s (upTo 10 (bytes s)).length = 10 := fun h => congrArg UInt8.toNat (upTo_end 10 (bytes s) (by rw [bytes_length]; exact h))
    rw [h35] at hb
    generalize (upTo 10 (bytes s)).length = n at *
    have HIN := Lib.hid hin; have HEND := Lib.hid hend; have H35 := Lib.hid h35; have HZ := Lib.hid hz
    clear hin hend h35 hz
    go_enter Tryd.func40, Tryd.ntmps40
    go_wp2_with fail
    go_loopw [3] (fun iv wr => ∃ j : Nat, j ≤ n ∧ iv = .int .i64 (j : Int) ∧ wr = w) (fun iv _ => n - (intOf iv).toNat)
    case atStart => exact ⟨0, Nat.zero_le _, rfl, rfl⟩
    case round =>
      obtain ⟨j, hj, rfl, hw⟩ := hrel
      subst hw
      by_cases hlt : j < s.size
      · have hbj := byteAt_get s j hlt
        have hj0 : (0 : Int) ≤ (j : Int) := by omega
        have hj1 : (j : Int) < (s.size : Int) := by omega
        by_cases hjn : j < n
        · have h10 := HIN.out j hjn
          generalize byteAt s j = c at *
          have n10 : ((c : Int) == 10) = false := by rw [beq_eq_false_iff_ne]; omega
          have m10 : ((c : Int) != 10) = true := by rw [bne_iff_ne]; omega
          have H10 := Lib.hid h10; clear h10
          go_wp2
          go_roundw
          case rel => exact ⟨j + 1, by omega, by go_num, by trivial⟩
          case measure => simp [intOf]; omega
        · obtain rfl : j = n := by omega
          have h10 := HEND.out hlt
          rw [h10] at hbj
          have H10 := Lib.hid h10; clear h10
          go_wp2
          go_ret
          exact ⟨rfl, rfl⟩
      · obtain rfl : j = n := by omega
        have hge : decide ((j : Int) < (s.size : Int)) = false := by rw [decide_eq_false_iff_not]; omega
        go_wp2
        go_ret
        exact ⟨rfl, rfl⟩
  · rw [if_neg (by rintro ⟨-, h⟩; exact h35 h)]
    generalize byteAt s 0 = b at *
    have n35 : ((b : Int) == 35) = false := by rw [beq_eq_false_iff_ne]; omega
    have m35 : ((b : Int) != 35) = true := by rw [bne_iff_ne]; omega
    have H35 := Lib.hid h35; have HZ := Lib.hid hz
    clear h35 hz
    go_enter Tryd.func40, Tryd.ntmps40
    go_wp2
    go_ret
    exact ⟨rfl, rfl⟩
end Go.Proofs.YtmogmneaomndeaaDoor
