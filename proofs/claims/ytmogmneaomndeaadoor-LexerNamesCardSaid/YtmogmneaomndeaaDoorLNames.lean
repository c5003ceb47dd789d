/-
  The law LexerNames.
-/
import Derived.Test.YtmogmneaomndeaaDoorLexK
import Derived.Test.YtmogmneaomndeaaDoorLexQ
set_option linter.unusedSimpArgs false
set_option linter.unusedVariables false
namespace Go.Proofs.YtmogmneaomndeaaDoor
open Go Go.Proofs Go.RowKit

set_option maxHeartbeats 400000 in
theorem lnames_walk (s : ByteArray) (hsz : s.size ≤ 9223372036854775807) (mx : Int) (w : World) (ht : Lib.TabBelow Tryd.prog w.heap.size w "surveyor/lexer.classes" .u8 clsTab) (hm : w.cell? ⟨0, 0, none⟩ = some (.int .i64 mx)) (hw : 0 < w.heap.size) :
    Calls Tryd.prog 4 #[.string s] w fun e w' => e = .returned (.bool true) ∧ Below w.heap.size w w' := by
  have CA : ∀ W, Below w.heap.size w W → Calls Tryd.prog 11 #[] W fun e w' => e = .returned (.bool true) ∧ Below W.heap.size W w' := fun W hW => awake_any mx W (Lib.tabBelow_of_tabIs (ht W hW)) (by rw [hW.cell (p := ⟨0, 0, none⟩) hw]; exact hm) (Nat.lt_of_lt_of_le hw hW.size)
  have HAL : ∀ W : World, Below W.heap.size W (W.alloc (Obj.cells (wordsL.map Value.string).toArray 9)) := fun W => (Below.refl _ _).alloc (Nat.le_refl _) _
  have CW : ∀ W : World, Calls Tryd.prog 16 #[] W fun e w' => ∃ g, e = .returned (.slice (some ⟨g, 0, none⟩) 19 19) ∧ WRow w' g 19 wordsL ∧ Below W.heap.size W w' := fun W => by
    refine (words_any W).mono ?_
    rintro e w' ⟨rfl, rfl⟩
    exact ⟨_, rfl, wrow_new W, HAL W⟩
  have CV := fun W => refWords_any W
  have CS := fun (W : World) a c b d (h1 : WRow W a c wordsL) (h2 : WRow W b d wordsL) => sameWords_any a c b d W h1 h2
  have CN := fun W (hW : Below w.heap.size w W) => name_any s hsz W (ht W hW)
  have CM := fun W => refName_any s hsz W
  have CU := fun W (hW : Below w.heap.size w W) => number_any s hsz W (ht W hW)
  have CT := fun W => refNumber_any s hsz W
  generalize nmE s = n1 at *
  generalize numErr (bytes s) = n2 at *
  have KA := Lib.hid CA; have KW := Lib.hid CW; have KV := Lib.hid CV; have KS := Lib.hid CS; have KN := Lib.hid CN; have KM := Lib.hid CM; have KU := Lib.hid CU; have KT := Lib.hid CT
  clear CA CW CV CS CN CM CU CT HAL ht hm hw hsz
  by_cases h1 : 500 < s.size
  · have g1 : decide ((500 : Int) < (s.size : Int)) = true := by rw [decide_eq_true_iff]; omega
    have H1 := Lib.hid h1; clear h1
    go_enter Tryd.func4, Tryd.ntmps4
    go_wp2_with (go_at_call 11; refine (KA.out _ (Below.refl _ _)).mono ?_; rintro e w3 ⟨rfl, hb3⟩; refine Hid.out ?_)
    have HB3 := Lib.hid hb3; clear hb3
    refine Lib.hid ?_
    go_wp2
    go_ret
    exact ⟨rfl, HB3.out⟩
  have g1 : decide ((500 : Int) < (s.size : Int)) = false := by rw [decide_eq_false_iff_not]; omega
  have H1 := Lib.hid h1; clear h1
  go_enter Tryd.func4, Tryd.ntmps4
  go_wp2_with (go_at_call 16; refine (KW.out _).mono ?_; rintro e w3 ⟨g3, rfl, hr3, hb3⟩; refine Hid.out ?_)
  have HR3 := Lib.hid hr3; have HB3 := Lib.hid hb3
  clear hr3 hb3
  refine Lib.hid ?_
  go_wp2_with (go_at_call 17; refine (KV.out _).mono ?_; rintro e w4 ⟨g4, c4, rfl, hr4, hb4⟩; refine Hid.out ?_)
  have HR34 := Lib.hid (HR3.out.keep hb4); have HR4 := Lib.hid hr4; have HB4 := Lib.hid (Below.chain HB3.out hb4)
  clear hr4 hb4
  refine Lib.hid ?_
  go_wp2_with (go_at_call 15; refine (KS.out _ _ _ _ _ HR34.out HR4.out).mono ?_; rintro e w5 ⟨rfl, hb5⟩; refine Hid.out ?_)
  have HB5 := Lib.hid (Below.chain HB4.out hb5); clear hb5
  refine Lib.hid ?_
  go_wp2_with (go_at_call 18; refine (KN.out _ HB5.out).mono ?_; rintro e w6 ⟨rfl, hb6⟩; refine Hid.out ?_)
  have HB6 := Lib.hid (Below.chain HB5.out hb6); clear hb6
  refine Lib.hid ?_
  go_wp2_with (go_at_call 19; refine (KM.out _).mono ?_; rintro e w7 ⟨rfl, hb7⟩; refine Hid.out ?_)
  have HB7 := Lib.hid (Below.chain HB6.out hb7); clear hb7
  refine Lib.hid ?_
  go_wp2_with (go_at_call 20; refine (KU.out _ HB7.out).mono ?_; rintro e w8 ⟨rfl, h8⟩; subst h8; refine Hid.out ?_)
  refine Lib.hid ?_
  go_wp2_with (go_at_call 21; refine (KT.out _).mono ?_; rintro e w8 ⟨rfl, h8⟩; subst h8; refine Hid.out ?_)
  refine Lib.hid ?_
  go_wp2_with (go_at_call 11; refine (KA.out _ HB7.out).mono ?_; rintro e w9 ⟨rfl, hb9⟩; refine Hid.out ?_)
  have HB9 := Lib.hid (Below.chain HB7.out hb9); clear hb9
  refine Lib.hid ?_
  go_wp2
  go_ret
  exact ⟨rfl, HB9.out⟩
end Go.Proofs.YtmogmneaomndeaaDoor
