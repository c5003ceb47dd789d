import Derived.Test.YtbadibbdoljjhaaGreatDoorTd3
import Derived.Test.YtbadibbdoljjhaaGreatDoorTd4
import Derived.Test.YtbadibbdoljjhaaGreatDoorTd5
import Derived.Test.YtbadibbdoljjhaaGreatDoorTd6
import Derived.Test.YtbadibbdoljjhaaGreatDoorTd7
import Derived.Test.YtbadibbdoljjhaaGreatDoorTd8
import Derived.Test.YtbadibbdoljjhaaGreatDoorTd9

set_option linter.unusedVariables false
/-
  TopIntegersOrdered: the walk.
-/
namespace Go.Proofs.YtbadibbdoljjhaaGreatDoor
open Go Go.Proofs Go.RowKit
theorem cmpI_cases (x y : Int) : (cmpI x y = -1 ∧ x < y) ∨ (cmpI x y = 0 ∧ x = y) ∨ (cmpI x y = 1 ∧ y < x) := by
  rcases Int.lt_trichotomy x y with h | h | h
  · exact .inl ⟨cmpI_lt h, h⟩
  · exact .inr (.inl ⟨by unfold cmpI; rw [if_neg (by omega), if_pos h], h⟩)
  · exact .inr (.inr ⟨cmpI_gt h, h⟩)
theorem cmpI_self (x : Int) : cmpI x x = 0 := by unfold cmpI; rw [if_neg (by omega), if_pos rfl]
theorem cmpI_swap (x y : Int) : cmpI y x = -cmpI x y := by
  rcases cmpI_cases x y with ⟨e, h⟩ | ⟨e, h⟩ | ⟨e, h⟩ <;> rw [e]
  · exact cmpI_gt h
  · subst h; exact cmpI_self _
  · exact cmpI_lt h
theorem cmpI_plus (x y z : Int) : cmpI (x + z) (y + z) = cmpI x y := by
  rcases cmpI_cases x y with ⟨e, h⟩ | ⟨e, h⟩ | ⟨e, h⟩ <;> rw [e]
  · exact cmpI_lt (by omega)
  · subst h; exact cmpI_self _
  · exact cmpI_gt (by omega)
theorem cmpI_minus (x y : Int) : cmpI (x - y) 0 = cmpI x y := by
  rcases cmpI_cases x y with ⟨e, h⟩ | ⟨e, h⟩ | ⟨e, h⟩ <;> rw [e]
  · exact cmpI_lt (by omega)
  · subst h; rw [Int.sub_self]; exact cmpI_self _
  · exact cmpI_gt (by omega)
theorem cmpI_times (x y z : Int) : cmpI (x * z) (y * z) = cmpI x y * cmpI z 0 := by
  rcases cmpI_cases z 0 with ⟨k, hz⟩ | ⟨k, hz⟩ | ⟨k, hz⟩ <;> rw [k]
  · rcases cmpI_cases x y with ⟨e, h⟩ | ⟨e, h⟩ | ⟨e, h⟩ <;> rw [e]
    · exact cmpI_gt (Int.mul_lt_mul_of_neg_right h hz)
    · subst h; exact cmpI_self _
    · exact cmpI_lt (Int.mul_lt_mul_of_neg_right h hz)
  · subst hz; rw [Int.mul_zero, Int.mul_zero, Int.mul_zero]; exact cmpI_self _
  · rcases cmpI_cases x y with ⟨e, h⟩ | ⟨e, h⟩ | ⟨e, h⟩ <;> rw [e]
    · exact cmpI_lt (Int.mul_lt_mul_of_pos_right h hz)
    · subst h; exact cmpI_self _
    · exact cmpI_gt (Int.mul_lt_mul_of_pos_right h hz)
theorem cmpI_range (x y : Int) : -1 ≤ cmpI x y ∧ cmpI x y ≤ 1 := by
  rcases cmpI_cases x y with ⟨e, h⟩ | ⟨e, h⟩ | ⟨e, h⟩ <;> rw [e] <;> exact ⟨by decide, by decide⟩
theorem lists_ne {s t : ByteArray} (h : s ≠ t) : (s.toList == t.toList) = false := by
  rw [beq_eq_false_iff_ne]; intro e
  exact h (ByteArray.ext (Array.toList_inj.1 (by rw [ByteArray.toList_eq, ByteArray.toList_eq] at e; exact e)))

set_option maxRecDepth 20000 in
set_option maxHeartbeats 4000000 in
theorem tord_awake (s t u : ByteArray) (w : World)
    (C0 : Calls Tryz.prog 58 #[.slice (some ⟨w.heap.size, 0, none⟩) 3 3] (w.alloc (Obj.cells #[.string s, .string t, .string u] 22)) (Bret (.bool false) (w.alloc (Obj.cells #[.string s, .string t, .string u] 22))))
    (htab : Lib.TabIs Tryz.prog w "internal/strconv.uint64pow10" .u64 Lib.pow10Tab) :
    Calls Tryz.prog 14 #[.string s, .string t, .string u] w (Bret (.bool true) w) := by
  have hT := Lib.tabBelow_of_tabIs htab
  have C1 : ∀ W : World, Below w.heap.size w W → Calls Tryz.prog 59 #[] W (Bret (.bool true) W) := fun W hW => playNumbers_any W (hT.on hW).here
  have B0 : Below w.heap.size w (w.alloc (Obj.cells #[.string s, .string t, .string u] 22)) := (Below.refl _ _).alloc (Nat.le_refl _) _
  have K0 := Lib.hid C0; have K1 := Lib.hid C1; have HB0 := Lib.hid B0
  clear C0 C1 B0 hT htab
  go_enter Tryz.func14, Tryz.ntmps14
  go_wp2_with (go_at_call 58; refine K0.out.mono ?_; rintro e w0 ⟨rfl, hb0⟩; refine Hid.out ?_)
  have hB0 := Below.chain HB0.out hb0; clear hb0
  refine Lib.hid ?_
  go_wp2_with (go_at_call 59; refine (K1.out _ hB0).mono ?_; rintro e w1 ⟨rfl, hb1⟩; refine Hid.out ?_)
  have hB1 := Below.chain hB0 hb1; clear hb1 hB0
  refine Lib.hid ?_
  go_wp2
  refine bodyPost_ret (v := .bool true) (by simp [results, Tryz.results14, go_sem]) rfl ?_
  exact ⟨rfl, hB1⟩

theorem tord_main (s t u : ByteArray) (x y z : Int) (w : World) (hs : Str s x) (ht : Str t y) (hu : Str u z) (hx : Sz 400 x) (hy : Sz 400 y) (hz : Sz 400 z)
    (C0 : Calls Tryz.prog 58 #[.slice (some ⟨w.heap.size, 0, none⟩) 3 3] (w.alloc (Obj.cells #[.string s, .string t, .string u] 22)) (Bret (.bool true) (w.alloc (Obj.cells #[.string s, .string t, .string u] 22))))
    (htab : Lib.TabIs Tryz.prog w "internal/strconv.uint64pow10" .u64 Lib.pow10Tab) :
    Calls Tryz.prog 14 #[.string s, .string t, .string u] w (Bret (.bool true) w) := by
  have hT := Lib.tabBelow_of_tabIs htab
  have hls : s.size ≤ 9223372036854775807 := by have := hs.size; omega
  have hlt : t.size ≤ 9223372036854775807 := by have := ht.size; omega
  have zxz := hx.plus hz; have zyz := hy.plus hz; have zmin := hx.minus hy
  have q1 := zxz.str (by decide) (by decide); have q2 := zyz.str (by decide) (by decide); have q3 := zmin.str (by decide) (by decide)
  have m1 := (hx.mul hz).str (by decide) (by decide); have m2 := (hy.mul hz).str (by decide) (by decide)
  have CN : ∀ W : World, Below w.heap.size w W → Calls Tryz.prog 59 #[] W (Bret (.bool true) W) := fun W hW => playNumbers_any W (hT.on hW).here
  obtain ⟨g0, g1⟩ := cmpI_range z 0
  have C1 : ∀ (b k : Nat) (W : World), PlayCl W b k → Below w.heap.size w W → Calls Tryz.prog 68 #[.string s, .string t, (.pointer (some ⟨k, 0, none⟩))] W (Bret (.int .i64 (cmpI x y)) W) := fun b k W hP _ => by
    have := ordI _ _ _ b k W hP (fun W' _ => bret_same (compareS _ _ _ _ W' hs ht)); exact this
  have C2 : ∀ (b k : Nat) (W : World), PlayCl W b k → Below w.heap.size w W → Calls Tryz.prog 68 #[.string t, .string u, (.pointer (some ⟨k, 0, none⟩))] W (Bret (.int .i64 (cmpI y z)) W) := fun b k W hP _ => by
    have := ordI _ _ _ b k W hP (fun W' _ => bret_same (compareS _ _ _ _ W' ht hu)); exact this
  have C3 : ∀ (b k : Nat) (W : World), PlayCl W b k → Below w.heap.size w W → Calls Tryz.prog 68 #[.string s, .string u, (.pointer (some ⟨k, 0, none⟩))] W (Bret (.int .i64 (cmpI x z)) W) := fun b k W hP _ => by
    have := ordI _ _ _ b k W hP (fun W' _ => bret_same (compareS _ _ _ _ W' hs hu)); exact this
  have C4 : ∀ (b k : Nat) (W : World), PlayCl W b k → Below w.heap.size w W → Calls Tryz.prog 68 #[.string t, .string s, (.pointer (some ⟨k, 0, none⟩))] W (Bret (.int .i64 (-cmpI x y)) W) := fun b k W hP _ => by
    have := ordI _ _ _ b k W hP (fun W' _ => bret_same (compareS _ _ _ _ W' ht hs)); rwa [cmpI_swap x y] at this
  have C5 : ∀ (b : Nat) (W : World), PlayAt W b → Below w.heap.size w W → Calls Tryz.prog 60 #[(.pointer (some ⟨b, 0, none⟩)), .string s, .string u] W (Bret (.string (str (Lib.itoa (x + z)))) W) := fun b W hP hW => by
    have := pIadd hs hu hx hz w htab (by decide) (by decide) b W hP hW; exact this
  have C6 : ∀ (b : Nat) (W : World), PlayAt W b → Below w.heap.size w W → Calls Tryz.prog 60 #[(.pointer (some ⟨b, 0, none⟩)), .string t, .string u] W (Bret (.string (str (Lib.itoa (y + z)))) W) := fun b W hP hW => by
    have := pIadd ht hu hy hz w htab (by decide) (by decide) b W hP hW; exact this
  have C7 : ∀ (b k : Nat) (W : World), PlayCl W b k → Below w.heap.size w W → Calls Tryz.prog 68 #[.string (str (Lib.itoa (x + z))), .string (str (Lib.itoa (y + z))), (.pointer (some ⟨k, 0, none⟩))] W (Bret (.int .i64 (cmpI x y)) W) := fun b k W hP _ => by
    have := ordI _ _ _ b k W hP (fun W' _ => bret_same (compareS _ _ _ _ W' q1 q2)); rwa [cmpI_plus x y z] at this
  have C8 : ∀ (b : Nat) (W : World), PlayAt W b → Below w.heap.size w W → Calls Tryz.prog 62 #[(.pointer (some ⟨b, 0, none⟩)), .string s, .string u] W (Bret (.string (str (Lib.itoa (x * z)))) W) := fun b W hP hW => by
    have := pImul hs hu hx hz w htab (by decide) (by decide) b W hP hW; exact this
  have C9 : ∀ (b : Nat) (W : World), PlayAt W b → Below w.heap.size w W → Calls Tryz.prog 62 #[(.pointer (some ⟨b, 0, none⟩)), .string t, .string u] W (Bret (.string (str (Lib.itoa (y * z)))) W) := fun b W hP hW => by
    have := pImul ht hu hy hz w htab (by decide) (by decide) b W hP hW; exact this
  have C10 : ∀ (b k : Nat) (W : World), PlayCl W b k → Below w.heap.size w W → Calls Tryz.prog 68 #[.string (str (Lib.itoa (x * z))), .string (str (Lib.itoa (y * z))), (.pointer (some ⟨k, 0, none⟩))] W (Bret (.int .i64 (cmpI x y * cmpI z 0)) W) := fun b k W hP _ => by
    have := ordI _ _ _ b k W hP (fun W' _ => bret_same (compareS _ _ _ _ W' m1 m2)); rwa [cmpI_times x y z] at this
  have C11 : ∀ (b k : Nat) (W : World), PlayCl W b k → Below w.heap.size w W → Calls Tryz.prog 68 #[.string u, .string ⟨#[48]⟩, (.pointer (some ⟨k, 0, none⟩))] W (Bret (.int .i64 (cmpI z 0)) W) := fun b k W hP _ => by
    have := ordI _ _ _ b k W hP (fun W' _ => bret_same (compareS _ _ _ _ W' hu str_zero)); exact this
  have C12 : ∀ (b : Nat) (W : World), PlayAt W b → Below w.heap.size w W → Calls Tryz.prog 61 #[(.pointer (some ⟨b, 0, none⟩)), .string s, .string t] W (Bret (.string (str (Lib.itoa (x - y)))) W) := fun b W hP hW => by
    have := pIsub hs ht hx hy w htab (by decide) (by decide) b W hP hW; exact this
  have C13 : ∀ (b k : Nat) (W : World), PlayCl W b k → Below w.heap.size w W → Calls Tryz.prog 68 #[.string (str (Lib.itoa (x - y))), .string ⟨#[48]⟩, (.pointer (some ⟨k, 0, none⟩))] W (Bret (.int .i64 (cmpI x y)) W) := fun b k W hP _ => by
    have := ordI _ _ _ b k W hP (fun W' _ => bret_same (compareS _ _ _ _ W' q3 str_zero)); rwa [cmpI_minus x y] at this
  have C14 : ∀ W : World, Below w.heap.size w W → Calls Tryz.prog 69 #[.string s, .string t] W (Bret (.tuple #[.string (if cmpI x y < 0 then s else t), .int .i64 0]) W) := fun W _ => by
    have := min_any s t W hls hlt
    rw [show errBoth (bytes s) (bytes t) = 0 by unfold errBoth; rw [hs.err, if_pos rfl, ht.err], if_pos rfl, ordZ_str hs ht] at this
    exact this
  have C16 : ∀ W : World, Below w.heap.size w W → Calls Tryz.prog 70 #[.string s, .string t] W (Bret (.tuple #[.string (if 0 < cmpI x y then s else t), .int .i64 0]) W) := fun W _ => by
    have := max_any s t W hls hlt
    rw [show errBoth (bytes s) (bytes t) = 0 by unfold errBoth; rw [hs.err, if_pos rfl, ht.err], if_pos rfl, ordZ_str hs ht] at this
    exact this
  have C20 : ∀ (b : Nat) (W : World), PlayAt W b → Below w.heap.size w W → Calls Tryz.prog 60 #[(.pointer (some ⟨b, 0, none⟩)), .string s, .string t] W (Bret (.string (str (Lib.itoa (x + y)))) W) := fun b W hP hW => by
    have := pIadd hs ht hx hy w htab (by decide) (by decide) b W hP hW; exact this
  rcases cmpI_cases x y with ⟨e, h⟩ | ⟨e, h⟩ | ⟨e, h⟩
  · have he := lists_ne (fun k : s = t => by subst k; have := itoa_inj (hs.text.symm.trans ht.text); omega)
    rw [e] at C1 C4 C7 C10 C13 C14 C16
    rw [if_pos (by decide)] at C14
    rw [if_neg (by decide)] at C16
    rw [show (-1 : Int) * cmpI z 0 = -cmpI z 0 by omega] at C10
    have C18 := C1; have C19 := C20
    rcases cmpI_cases y z with ⟨e2, h2⟩ | ⟨e2, h2⟩ | ⟨e2, h2⟩
    · rw [e2] at C2; rw [cmpI_lt (by omega : x < z)] at C3
      exact tord_mm s t u _ _ _ _ _ _ _ _ _ w g0 g1 he C0 C1 C2 C3 C4 C5 C6 C7 C8 C9 C10 C11 C12 C13 C14 C16 C18 C19 C20 CN
    · rw [e2] at C2; rw [cmpI_lt (by omega : x < z)] at C3
      exact tord_mz s t u _ _ _ _ _ _ _ _ _ w g0 g1 he C0 C1 C2 C3 C4 C5 C6 C7 C8 C9 C10 C11 C12 C13 C14 C16 C18 C19 C20 CN
    · rw [e2] at C2
      exact tord_mp s t u _ _ _ _ _ _ _ _ _ _ w g0 g1 he C0 C1 C2 C3 C4 C5 C6 C7 C8 C9 C10 C11 C12 C13 C14 C16 C18 C19 C20 CN
  · subst h
    have hst : s = t := by rw [← lit_str hs, lit_str ht]
    subst hst
    have he : (s.toList == s.toList) = true := beq_self_eq_true _
    rw [e] at C1 C4 C7 C10 C13 C14 C16
    rw [if_neg (by decide)] at C14
    rw [if_neg (by decide)] at C16
    rw [Int.zero_mul] at C10
    have C18 := C1; have C19 := C20
    rcases cmpI_cases x z with ⟨e2, h2⟩ | ⟨e2, h2⟩ | ⟨e2, h2⟩
    · rw [e2] at C2 C3
      exact tord_zm s s u _ _ _ _ _ _ _ _ _ w g0 g1 he C0 C1 C2 C3 C4 C5 C6 C7 C8 C9 C10 C11 C12 C13 C14 C16 C18 C19 C20 CN
    · rw [e2] at C2 C3
      exact tord_zz s s u _ _ _ _ _ _ _ _ _ w g0 g1 he C0 C1 C2 C3 C4 C5 C6 C7 C8 C9 C10 C11 C12 C13 C14 C16 C18 C19 C20 CN
    · rw [e2] at C2 C3
      exact tord_zp s s u _ _ _ _ _ _ _ _ _ w g0 g1 he C0 C1 C2 C3 C4 C5 C6 C7 C8 C9 C10 C11 C12 C13 C14 C16 C18 C19 C20 CN
  · have he := lists_ne (fun k : s = t => by subst k; have := itoa_inj (hs.text.symm.trans ht.text); omega)
    rw [e] at C1 C4 C7 C10 C13 C14 C16
    rw [if_neg (by decide)] at C14
    rw [if_pos (by decide)] at C16
    rw [Int.one_mul] at C10
    have C18 := C4
    have C19 : ∀ (b : Nat) (W : World), PlayAt W b → Below w.heap.size w W → Calls Tryz.prog 60 #[(.pointer (some ⟨b, 0, none⟩)), .string t, .string s] W (Bret (.string (str (Lib.itoa (x + y)))) W) := fun b W hP hW => by
      have := pIadd ht hs hy hx w htab (by decide) (by decide) b W hP hW; rwa [Int.add_comm y x] at this
    exact tord_p s t u _ _ _ _ _ _ _ _ _ _ _ w g0 g1 he C0 C1 C2 C3 C4 C5 C6 C7 C8 C9 C10 C11 C12 C13 C14 C16 C18 C19 C20 CN

theorem tord_walk (s t u : ByteArray) (w : World) (hs : s.size ≤ 9223372036854775807) (ht : t.size ≤ 9223372036854775807) (hu : u.size ≤ 9223372036854775807)
    (htab : Lib.TabIs Tryz.prog w "internal/strconv.uint64pow10" .u64 Lib.pow10Tab) :
    Calls Tryz.prog 14 #[.string s, .string t, .string u] w fun e w' => e = .returned (.bool true) ∧ Below w.heap.size w w' := by
  have C0 := whole_three s t u w hs ht hu
  cases hr : wholeB s && (wholeB t && wholeB u)
  · rw [hr] at C0
    exact tord_awake s t u w C0 htab
  · rw [hr] at C0
    rw [Bool.and_eq_true, Bool.and_eq_true] at hr
    obtain ⟨a1, a2⟩ := whole_str hr.1
    obtain ⟨b1, b2⟩ := whole_str hr.2.1
    obtain ⟨c1, c2⟩ := whole_str hr.2.2
    exact tord_main s t u _ _ _ w a1 b1 c1 a2 b2 c2 C0 htab
end Go.Proofs.YtbadibbdoljjhaaGreatDoor

