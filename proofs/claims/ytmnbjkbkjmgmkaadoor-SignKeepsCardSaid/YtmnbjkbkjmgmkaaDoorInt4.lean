/-
  bigint: the order.
-/
import Derived.Test.YtmnbjkbkjmgmkaaDoorInt3
import Derived.Test.YtmnbjkbkjmgmkaaDoorMathOrd
set_option linter.unusedSimpArgs false
set_option linter.unusedVariables false
namespace Go.Proofs.YtmnbjkbkjmgmkaaDoor
open Go Go.Proofs Go.RowKit

set_option maxHeartbeats 1000000 in
theorem orderDigits_any (a b : ByteArray) (w : World) (ha : a.size ≤ 9223372036854775807) (hb : b.size ≤ 9223372036854775807) :
    Calls Tryd.prog 63 #[.string a, .string b] w fun e w' => e = .returned (.int .i64 (ordL (bytes a) (bytes b))) ∧ w' = w := by
  have C : ∀ W : World, Calls Tryd.prog 69 #[.string a, .string b] W fun e w' => e = .returned (.int .i64 (Lib.compareBytes (bytes a) (bytes b))) ∧ w' = W := fun W => Tryd.strings_Compare a b W
  have he : ordL (bytes a) (bytes b) = if a.size < b.size then -1 else if b.size < a.size then 1 else Lib.compareBytes (bytes a) (bytes b) := rfl
  generalize ordL (bytes a) (bytes b) = r at *
  generalize Lib.compareBytes (bytes a) (bytes b) = q at *
  have HE := Lib.hid he; clear he
  by_cases h1 : a.size < b.size
  · have hr : r = -1 := by rw [HE.out, if_pos h1]
    subst hr
    go_enter Tryd.func63, Tryd.ntmps63
    go_wp2
    go_ret
    exact ⟨rfl, rfl⟩
  · by_cases h2 : b.size < a.size
    · have hr : r = 1 := by rw [HE.out, if_neg h1, if_pos h2]
      subst hr
      go_enter Tryd.func63, Tryd.ntmps63
      go_wp2
      go_ret
      exact ⟨rfl, rfl⟩
    · have hr : r = q := by rw [HE.out, if_neg h1, if_neg h2]
      subst hr
      clear HE
      go_enter Tryd.func63, Tryd.ntmps63
      go_wp2_with (go_at_call 69; refine (C _).mono ?_; rintro e w1 ⟨rfl, rfl⟩)
      go_ret
      exact ⟨rfl, rfl⟩

theorem digL_le (l : List UInt8) : (digL l).length ≤ l.length := by
  rcases neg_cases l with ⟨-, h⟩ | ⟨-, h⟩
  · rw [congrArg List.length h]; simp
  · rw [h]; exact Nat.le_refl _

set_option maxHeartbeats 2000000 in
theorem order_any (a b : ByteArray) (w : World) (ha : a.size ≤ 9223372036854775807) (hb : b.size ≤ 9223372036854775807) :
    Calls Tryd.prog 54 #[.string a, .string b] w fun e w' => e = .returned (.int .i64 (ordZ (bytes a) (bytes b))) ∧ w' = w := by
  have CA := isNegative_any a
  have CB := isNegative_any b
  have DA := digits_any a
  have DB := digits_any b
  have ha' : (str (digL (bytes a))).size ≤ 9223372036854775807 := by rw [str_size]; exact Nat.le_trans (digL_le _) ha
  have hb' : (str (digL (bytes b))).size ≤ 9223372036854775807 := by rw [str_size]; exact Nat.le_trans (digL_le _) hb
  have OAB := fun W => orderDigits_any (str (digL (bytes a))) (str (digL (bytes b))) W ha' hb'
  have OBA := fun W => orderDigits_any (str (digL (bytes b))) (str (digL (bytes a))) W hb' ha'
  rw [bytes_str, bytes_str] at OAB OBA
  have he : ordZ (bytes a) (bytes b) = if negB (bytes a) = true then (if negB (bytes b) = true then ordL (digL (bytes b)) (digL (bytes a)) else -1) else (if negB (bytes b) = true then 1 else ordL (digL (bytes a)) (digL (bytes b))) := rfl
  generalize ordZ (bytes a) (bytes b) = r at *
  generalize negB (bytes a) = na at *
  generalize negB (bytes b) = nb at *
  generalize ordL (digL (bytes b)) (digL (bytes a)) = rba at *
  generalize ordL (digL (bytes a)) (digL (bytes b)) = rab at *
  generalize str (digL (bytes a)) = da at *
  generalize str (digL (bytes b)) = db at *
  clear ha' hb'
  cases na <;> cases nb
  · have hr : r = rab := he
    subst hr; clear he OBA
    go_enter Tryd.func54, Tryd.ntmps54
    go_wp2_with (go_at_call 62; refine (CA _).mono ?_; rintro e w1 ⟨rfl, rfl⟩; refine Hid.out ?_)
    refine Lib.hid ?_
    go_wp2_with (go_at_call 62; refine (CA _).mono ?_; rintro e w1 ⟨rfl, rfl⟩; refine Hid.out ?_)
    refine Lib.hid ?_
    go_wp2_with (go_at_call 62; refine (CB _).mono ?_; rintro e w1 ⟨rfl, rfl⟩; refine Hid.out ?_)
    refine Lib.hid ?_
    go_wp2_with (go_at_call 64; refine (DA _).mono ?_; rintro e w1 ⟨rfl, rfl⟩; refine Hid.out ?_)
    refine Lib.hid ?_
    go_wp2_with (go_at_call 64; refine (DB _).mono ?_; rintro e w1 ⟨rfl, rfl⟩; refine Hid.out ?_)
    refine Lib.hid ?_
    go_wp2_with (go_at_call 63; refine (OAB _).mono ?_; rintro e w1 ⟨rfl, rfl⟩; refine Hid.out ?_)
    refine Lib.hid ?_
    go_wp2
    go_ret
    exact ⟨rfl, rfl⟩
  · have hr : r = 1 := he
    subst hr; clear he OBA OAB
    go_enter Tryd.func54, Tryd.ntmps54
    go_wp2_with (go_at_call 62; refine (CA _).mono ?_; rintro e w1 ⟨rfl, rfl⟩; refine Hid.out ?_)
    refine Lib.hid ?_
    go_wp2_with (go_at_call 62; refine (CA _).mono ?_; rintro e w1 ⟨rfl, rfl⟩; refine Hid.out ?_)
    refine Lib.hid ?_
    go_wp2_with (go_at_call 62; refine (CB _).mono ?_; rintro e w1 ⟨rfl, rfl⟩; refine Hid.out ?_)
    refine Lib.hid ?_
    go_wp2
    go_ret
    exact ⟨rfl, rfl⟩
  · have hr : r = -1 := he
    subst hr; clear he OBA OAB
    go_enter Tryd.func54, Tryd.ntmps54
    go_wp2_with (go_at_call 62; refine (CA _).mono ?_; rintro e w1 ⟨rfl, rfl⟩; refine Hid.out ?_)
    refine Lib.hid ?_
    go_wp2_with (go_at_call 62; refine (CB _).mono ?_; rintro e w1 ⟨rfl, rfl⟩; refine Hid.out ?_)
    refine Lib.hid ?_
    go_wp2_with (go_at_call 62; refine (CA _).mono ?_; rintro e w1 ⟨rfl, rfl⟩; refine Hid.out ?_)
    refine Lib.hid ?_
    go_wp2
    go_ret
    exact ⟨rfl, rfl⟩
  · have hr : r = rba := he
    subst hr; clear he OAB
    go_enter Tryd.func54, Tryd.ntmps54
    go_wp2_with (go_at_call 62; refine (CA _).mono ?_; rintro e w1 ⟨rfl, rfl⟩; refine Hid.out ?_)
    refine Lib.hid ?_
    go_wp2_with (go_at_call 62; refine (CB _).mono ?_; rintro e w1 ⟨rfl, rfl⟩; refine Hid.out ?_)
    refine Lib.hid ?_
    go_wp2_with (go_at_call 64; refine (DB _).mono ?_; rintro e w1 ⟨rfl, rfl⟩; refine Hid.out ?_)
    refine Lib.hid ?_
    go_wp2_with (go_at_call 64; refine (DA _).mono ?_; rintro e w1 ⟨rfl, rfl⟩; refine Hid.out ?_)
    refine Lib.hid ?_
    go_wp2_with (go_at_call 63; refine (OBA _).mono ?_; rintro e w1 ⟨rfl, rfl⟩; refine Hid.out ?_)
    refine Lib.hid ?_
    go_wp2
    go_ret
    exact ⟨rfl, rfl⟩

/-- What Compare returns. -/
def cmpR (a b : List UInt8) : Value := .tuple #[.int .i64 (if errBoth a b = 0 then ordZ a b else 0), .int .i64 (errBoth a b : Nat)]

theorem errBoth_cases (a b : List UInt8) : errBoth a b = 0 ∨ errBoth a b = 3 ∨ errBoth a b = 10 := by
  unfold errBoth; split
  · exact errOf_cases b
  · exact errOf_cases a

set_option maxHeartbeats 2000000 in
theorem compareZ_any (a b : ByteArray) (w : World) (ha : a.size ≤ 9223372036854775807) (hb : b.size ≤ 9223372036854775807) :
    Calls Tryd.prog 36 #[.string a, .string b] w fun e w' => e = .returned (cmpR (bytes a) (bytes b)) ∧ w' = w := by
  have C1 := fun W => checkBoth_any a b W ha hb
  have C2 := fun W => order_any a b W ha hb
  have hc := errBoth_cases (bytes a) (bytes b)
  unfold cmpR
  generalize errBoth (bytes a) (bytes b) = c at *
  generalize ordZ (bytes a) (bytes b) = r at *
  rcases hc with rfl | rfl | rfl
  · go_enter Tryd.func36, Tryd.ntmps36
    go_wp2_with (go_at_call 53; refine (C1 _).mono ?_; rintro e w1 ⟨rfl, rfl⟩; refine Hid.out ?_)
    refine Lib.hid ?_
    go_wp2_with (go_at_call 54; refine (C2 _).mono ?_; rintro e w1 ⟨rfl, rfl⟩; refine Hid.out ?_)
    refine Lib.hid ?_
    go_wp2
    refine bodyPost_ret (by simp [results, Tryd.results36, go_sem]; rfl) rfl ?_
    exact ⟨rfl, rfl⟩
  all_goals
    go_enter Tryd.func36, Tryd.ntmps36
    go_wp2_with (go_at_call 53; refine (C1 _).mono ?_; rintro e w1 ⟨rfl, rfl⟩; refine Hid.out ?_)
    refine Lib.hid ?_
    go_wp2
    refine bodyPost_ret (by simp [results, Tryd.results36, go_sem]; rfl) rfl ?_
    exact ⟨rfl, rfl⟩
end Go.Proofs.YtmnbjkbkjmgmkaaDoor
