/-
  bigint: signs, digits, checks.
-/
import Derived.Test.YtmnbjkbkjmgmkaaDoorShelfP
import Derived.Test.YtmnbjkbkjmgmkaaDoorDigits
import Derived.Test.YtmnbjkbkjmgmkaaDoorMathInt
set_option linter.unusedSimpArgs false
set_option linter.unusedVariables false
namespace Go.Proofs.YtmnbjkbkjmgmkaaDoor
open Go Go.Proofs Go.RowKit

/-- A list of bytes as a string. -/
def str (l : List UInt8) : ByteArray := ⟨l.toArray⟩
theorem bytes_str (l : List UInt8) : bytes (str l) = l := by simp [bytes, str]
theorem str_bytes (s : ByteArray) : str (bytes s) = s := by simp [bytes, str]
theorem str_size (l : List UInt8) : (str l).size = l.length := by simp [str, ByteArray.size]

theorem isNegative_any (s : ByteArray) (w : World) :
    Calls Tryd.prog 62 #[.string s] w fun e w' => e = .returned (.bool (negB (bytes s))) ∧ w' = w := by
  have C : ∀ W : World, Calls Tryd.prog 68 #[.string s, .string ⟨#[45]⟩] W fun e w' => e = .returned (.bool (negB (bytes s))) ∧ w' = W := fun W => Tryd.strings_HasPrefix s ⟨#[45]⟩ W
  generalize negB (bytes s) = r at *
  go_enter Tryd.func62, Tryd.ntmps62
  go_wp2_with (go_at_call 68; refine (C _).mono ?_; rintro e w1 ⟨rfl, rfl⟩)
  go_ret
  exact ⟨rfl, rfl⟩

theorem digits_any (s : ByteArray) (w : World) :
    Calls Tryd.prog 64 #[.string s] w fun e w' => e = .returned (.string (str (digL (bytes s)))) ∧ w' = w := by
  have C : ∀ W : World, Calls Tryd.prog 70 #[.string s, .string ⟨#[45]⟩] W fun e w' => e = .returned (.string (str (digL (bytes s)))) ∧ w' = W := fun W => Tryd.strings_TrimPrefix s ⟨#[45]⟩ W
  generalize str (digL (bytes s)) = r at *
  go_enter Tryd.func64, Tryd.ntmps64
  go_wp2_with (go_at_call 70; refine (C _).mono ?_; rintro e w1 ⟨rfl, rfl⟩)
  go_ret
  exact ⟨rfl, rfl⟩

theorem isLong_any (s : ByteArray) (w : World) (hs : s.size ≤ 9223372036854775807) :
    Calls Tryd.prog 67 #[.string s] w fun e w' => e = .returned (.bool (decide (4096 < (digL (bytes s)).length))) ∧ w' = w := by
  have C := digits_any s
  rw [← str_size (digL (bytes s))]
  generalize str (digL (bytes s)) = r at *
  go_enter Tryd.func67, Tryd.ntmps67
  go_wp2_with (go_at_call 64; refine (C _).mono ?_; rintro e w1 ⟨rfl, rfl⟩)
  go_ret
  exact ⟨ret_bool (by simp; omega), rfl⟩

end Go.Proofs.YtmnbjkbkjmgmkaaDoor
