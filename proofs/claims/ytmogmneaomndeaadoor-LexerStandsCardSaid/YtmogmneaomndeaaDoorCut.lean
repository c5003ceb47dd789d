/-
  strings.Cut at a slash.
-/
import Derived.Test.YtmogmneaomndeaaDoorShelfP
import Derived.Test.YtmogmneaomndeaaDoorMathRat
import Derived.Test.YtmogmneaomndeaaDoorInt1
namespace Go.Proofs.YtmogmneaomndeaaDoor
open Go Go.Proofs Go.RowKit

/-- What Cut returns. -/
def cutV (l : List UInt8) : Value := if hasB l = true then .tuple #[.string (str (topL l)), .string (str (botL l)), .bool true] else .tuple #[.string (str l), .string ⟨#[]⟩, .bool false]

theorem extract_take (s : ByteArray) (i : Nat) : s.extract 0 i = str ((bytes s).take i) := by
  apply ByteArray.ext
  apply Array.toList_inj.1
  simp [str, bytes, ByteArray.data_extract]
theorem extract_drop (s : ByteArray) (i : Nat) : s.extract i s.size = str ((bytes s).drop i) := by
  apply ByteArray.ext
  apply Array.toList_inj.1
  show (s.extract i s.size).data.toList = _
  rw [ByteArray.data_extract]
  show (s.data.extract i s.data.size).toList = _
  simp [str, bytes]
  exact List.take_of_length_le (by rw [List.length_drop]; exact Nat.le_refl _)

set_option maxHeartbeats 1000000 in
theorem cutLite_any (s : ByteArray) (w : World) (hs : s.size ≤ 9223372036854775806) :
    Calls Tryd.prog 61 #[.string s, .string ⟨#[47]⟩] w fun e w' => e = .returned (cutV (bytes s)) ∧ Below w.heap.size w w' := by
  have C : ∀ W : World, Calls Tryd.prog 82 #[.string s, .string ⟨#[47]⟩] W fun e w' => e = .returned (.int .i64 (slashAt (bytes s))) ∧ w' = W := fun W => Tryd.stringslite_Index_one s 47 W
  unfold cutV
  rcases indexByte_cases (bytes s) 47 with ⟨h, hm⟩ | ⟨i, h, hi, he, hm⟩
  · have hs0 : slashAt (bytes s) = -1 := h
    rw [(slash_none hm).1, if_neg (by simp), str_bytes]
    rw [hs0] at C
    have K := Lib.hid C; clear C hs0 h hm
    go_enter Tryd.func61, Tryd.ntmps61
    go_wp2_with (go_at_call 82; refine (K.out _).mono ?_; rintro e w1 ⟨rfl, h⟩; subst h; refine Hid.out ?_)
    refine Lib.hid ?_
    go_wp2
    refine bodyPost_ret (by simp [results, Tryd.results61, go_sem]; rfl) rfl ?_
    exact ⟨rfl, Below.refl _ _⟩
  · have hs0 : slashAt (bytes s) = i := h
    have hb : hasB (bytes s) = true := by unfold hasB; rw [hs0]; simp
    rw [if_pos hb]
    have e1 : topL (bytes s) = (bytes s).take i := by unfold topL; rw [if_pos hb, hs0, Int.toNat_natCast]
    have e2 : botL (bytes s) = (bytes s).drop (i + 1) := by unfold botL; rw [if_pos hb, hs0, Int.toNat_natCast]
    have hi' : i < s.size := hi
    rw [e1, e2, ← extract_take s i, ← extract_drop s (i + 1)]
    rw [hs0] at C
    have K := Lib.hid C; clear C hs0 h hm he hb e1 e2 hi
    go_enter Tryd.func61, Tryd.ntmps61
    go_wp2_with (go_at_call 82; refine (K.out _).mono ?_; rintro e w1 ⟨rfl, h⟩; subst h; refine Hid.out ?_)
    refine Lib.hid ?_
    go_wp2_with fail
    go_region
    all_goals
      go_wp2
      refine bodyPost_ret (by simp [results, Tryd.results61, go_sem]; rfl) rfl ?_
      exact ⟨rfl, (Below.refl _ _).drew⟩

set_option maxHeartbeats 1000000 in
theorem cut_slash (s : ByteArray) (w : World) (hs : s.size ≤ 9223372036854775806) :
    Calls Tryd.prog 30 #[.string s, .string ⟨#[47]⟩] w fun e w' => e = .returned (cutV (bytes s)) ∧ Below w.heap.size w w' := by
  have C := fun W => cutLite_any s W hs
  obtain ⟨u, v, b, hr⟩ : ∃ u v b, cutV (bytes s) = .tuple #[.string u, .string v, .bool b] := by unfold cutV; split <;> exact ⟨_, _, _, rfl⟩
  rw [hr] at C ⊢
  have K := Lib.hid C; clear C hr hs
  go_enter Tryd.func30, Tryd.ntmps30
  go_wp2_with (go_at_call 61; refine (K.out _).mono ?_; rintro e w1 ⟨rfl, hb1⟩; refine Hid.out ?_)
  refine Lib.hid ?_
  go_wp2
  refine bodyPost_ret (by simp [results, Tryd.results30, go_sem]; rfl) rfl ?_
  exact ⟨rfl, hb1⟩
end Go.Proofs.YtmogmneaomndeaaDoor
