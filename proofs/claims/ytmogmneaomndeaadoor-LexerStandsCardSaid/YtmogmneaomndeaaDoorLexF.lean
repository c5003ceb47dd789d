/-
  lexer.Words, Name.
-/
import Derived.Test.YtmogmneaomndeaaDoorLexE
import Derived.Test.YtmogmneaomndeaaDoorShelfP
set_option linter.unusedSimpArgs false
set_option linter.unusedVariables false
namespace Go.Proofs.YtmogmneaomndeaaDoor
open Go Go.Proofs Go.RowKit

/-- The reserved words. -/
def wordsL : List ByteArray := [(⟨#[97, 110, 100]⟩ : ByteArray), (⟨#[97, 114, 114, 97, 121]⟩ : ByteArray), (⟨#[97, 115, 115, 101, 114, 116]⟩ : ByteArray), (⟨#[97, 115, 115, 117, 109, 101]⟩ : ByteArray), (⟨#[101, 108, 115, 101]⟩ : ByteArray), (⟨#[101, 110, 115, 117, 114, 101, 115]⟩ : ByteArray), (⟨#[102, 97, 108, 115, 101]⟩ : ByteArray), (⟨#[105, 102]⟩ : ByteArray), (⟨#[105, 109, 112, 111, 114, 116]⟩ : ByteArray), (⟨#[105, 110, 112, 117, 116]⟩ : ByteArray), (⟨#[110, 111, 116]⟩ : ByteArray), (⟨#[111, 114]⟩ : ByteArray), (⟨#[112, 114, 111, 99]⟩ : ByteArray), (⟨#[114, 101, 99, 111, 114, 100]⟩ : ByteArray), (⟨#[114, 101, 113, 117, 105, 114, 101, 115]⟩ : ByteArray), (⟨#[114, 101, 116, 117, 114, 110, 115]⟩ : ByteArray), (⟨#[116, 114, 117, 101]⟩ : ByteArray), (⟨#[118, 97, 114]⟩ : ByteArray), (⟨#[119, 104, 105, 108, 101]⟩ : ByteArray)]
theorem words_any (w : World) :
    Calls Tryd.prog 16 #[] w fun e w' => e = .returned (.slice (some ⟨w.heap.size, 0, none⟩) 19 19) ∧ w' = w.alloc (Obj.cells (wordsL.map Value.string).toArray 9) := by
  go_enter Tryd.func16, Tryd.ntmps16
  go_wp2
  go_ret
  exact ⟨rfl, rfl⟩
/-- The error of a name. -/
def nmE (s : ByteArray) : Nat := if iwB (bytes s) = true ∧ Lib.containsS wordsL s = false then 0 else 8
set_option maxHeartbeats 400000 in
theorem name_any (s : ByteArray) (hs : s.size ≤ 9223372036854775807) (w : World) (ht : Lib.TabIs Tryd.prog w "surveyor/lexer.classes" .u8 clsTab) :
    Calls Tryd.prog 18 #[.string s] w fun e w' => e = .returned (.int .i64 (nmE s : Nat)) ∧ Below w.heap.size w w' := by
  have CI := isWord_any s hs w ht
  have CW := words_any w
  have CC : Calls Tryd.prog 46 #[.slice (some ⟨w.heap.size, 0, none⟩) 19 19, .string s] (w.alloc (Obj.cells (wordsL.map Value.string).toArray 9)) fun e w' => e = .returned (.bool (Lib.containsS wordsL s)) ∧ w' = w.alloc (Obj.cells (wordsL.map Value.string).toArray 9) := by
    have := Tryd.slices_Contains_string w.heap.size 0 19 19 wordsL s (w.alloc (Obj.cells (wordsL.map Value.string).toArray 9)) (by decide) (by decide) (fun j hj => by
      rw [Nat.zero_add, World.cell?_alloc_new]
      simp only [List.getElem?_toArray, List.getElem?_map, List.getD_eq_getElem?_getD, List.getElem?_eq_getElem hj]
      rfl)
    rwa [show wordsL.take 19 = wordsL from rfl] at this
  have hB : Below w.heap.size w (w.alloc (Obj.cells (wordsL.map Value.string).toArray 9)) := (Below.refl _ _).alloc (Nat.le_refl _) _
  unfold nmE
  generalize (Obj.cells (wordsL.map Value.string).toArray 9) = O at *
  generalize Lib.containsS wordsL s = v at *
  cases hi : iwB (bytes s)
  · rw [if_neg (by rintro ⟨h, -⟩; cases h)]
    rw [hi] at CI
    have KI := Lib.hid CI
    clear CI CW CC ht hB hi
    go_enter Tryd.func18, Tryd.ntmps18
    go_wp2_with (go_at_call 45; refine KI.out.mono ?_; rintro e w3 ⟨rfl, h⟩; subst h; refine Hid.out ?_)
    refine Lib.hid ?_
    go_wp2
    go_ret
    exact ⟨rfl, Below.refl _ _⟩
  · rw [hi] at CI
    have KI := Lib.hid CI; have KW := Lib.hid CW; have KC := Lib.hid CC; have HB := Lib.hid hB
    clear CI CW CC ht hB hi
    cases v
    · rw [if_pos ⟨rfl, rfl⟩]
      go_enter Tryd.func18, Tryd.ntmps18
      go_wp2_with (go_at_call 45; refine KI.out.mono ?_; rintro e w3 ⟨rfl, h⟩; subst h; refine Hid.out ?_)
      refine Lib.hid ?_
      go_wp2_with (go_at_call 16; refine KW.out.mono ?_; rintro e w4 ⟨rfl, h⟩; subst h; refine Hid.out ?_)
      refine Lib.hid ?_
      go_wp2_with (go_at_call 46; refine KC.out.mono ?_; rintro e w4 ⟨rfl, h⟩; subst h; refine Hid.out ?_)
      refine Lib.hid ?_
      go_wp2
      go_ret
      exact ⟨rfl, HB.out⟩
    · rw [if_neg (by rintro ⟨-, h⟩; cases h)]
      go_enter Tryd.func18, Tryd.ntmps18
      go_wp2_with (go_at_call 45; refine KI.out.mono ?_; rintro e w3 ⟨rfl, h⟩; subst h; refine Hid.out ?_)
      refine Lib.hid ?_
      go_wp2_with (go_at_call 16; refine KW.out.mono ?_; rintro e w4 ⟨rfl, h⟩; subst h; refine Hid.out ?_)
      refine Lib.hid ?_
      go_wp2_with (go_at_call 46; refine KC.out.mono ?_; rintro e w4 ⟨rfl, h⟩; subst h; refine Hid.out ?_)
      refine Lib.hid ?_
      go_wp2
      go_ret
      exact ⟨rfl, HB.out⟩
end Go.Proofs.YtmogmneaomndeaaDoor
