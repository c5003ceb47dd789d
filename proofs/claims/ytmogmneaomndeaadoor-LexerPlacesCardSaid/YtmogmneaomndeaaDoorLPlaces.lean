/-
  The law LexerPlaces.
-/
import Derived.Test.YtmogmneaomndeaaDoorLexK
import Derived.Test.YtmogmneaomndeaaDoorLexR
set_option linter.unusedSimpArgs false
set_option linter.unusedVariables false
namespace Go.Proofs.YtmogmneaomndeaaDoor
open Go Go.Proofs Go.RowKit

set_option maxHeartbeats 400000 in
theorem lplaces_walk (s : ByteArray) (a : Int) (hsz : s.size ≤ 9223372036854775807) (mx : Int) (w : World) (ht : Lib.TabBelow Tryd.prog w.heap.size w "surveyor/lexer.classes" .u8 clsTab) (hm : w.cell? ⟨0, 0, none⟩ = some (.int .i64 mx)) (hw : 0 < w.heap.size) :
    Calls Tryd.prog 6 #[.string s, .int .i64 a] w fun e w' => e = .returned (.bool true) ∧ Below w.heap.size w w' := by
  have CA : ∀ W, Below w.heap.size w W → Calls Tryd.prog 11 #[] W fun e w' => e = .returned (.bool true) ∧ Below W.heap.size W w' := fun W hW => awake_any mx W (Lib.tabBelow_of_tabIs (ht W hW)) (by rw [hW.cell (p := ⟨0, 0, none⟩) hw]; exact hm) (Nat.lt_of_lt_of_le hw hW.size)
  have CP := fun W => place_any s a W
  have CQ := fun W => refPlace_any s a W
  have CS := fun W (hW : Below w.heap.size w W) => strip_any s mx W (by rw [hW.cell (p := ⟨0, 0, none⟩) hw]; exact hm)
  have CR := fun W => refStrip_any s W
  generalize plR s a = P at *
  generalize stripR s = R at *
  obtain ⟨p1, p2, p3⟩ := P
  obtain ⟨r1, r2⟩ := R
  dsimp only at CP CQ CS CR
  have KA := Lib.hid CA; have KP := Lib.hid CP; have KQ := Lib.hid CQ; have KS := Lib.hid CS; have KR := Lib.hid CR
  clear CA CP CQ CS CR ht hm hw hsz
  by_cases h1 : 1000 < s.size ∧ s.size ≤ 65536
  · have g1 : decide ((1000 : Int) < (s.size : Int)) = true := by rw [decide_eq_true_iff]; omega
    have g2 : decide ((s.size : Int) ≤ (65536 : Int)) = true := by rw [decide_eq_true_iff]; omega
    have H1 := Lib.hid h1; clear h1
    go_enter Tryd.func6, Tryd.ntmps6
    go_wp2_with (go_at_call 11; refine (KA.out _ (Below.refl _ _)).mono ?_; rintro e w3 ⟨rfl, hb3⟩; refine Hid.out ?_)
    have HB3 := Lib.hid hb3; clear hb3
    refine Lib.hid ?_
    go_wp2
    go_ret
    exact ⟨rfl, HB3.out⟩
  have body : (decide ((1000 : Int) < (s.size : Int)) = false) ∨ (decide ((1000 : Int) < (s.size : Int)) = true ∧ decide ((s.size : Int) ≤ (65536 : Int)) = false) := by
    by_cases q : 1000 < s.size
    · exact .inr ⟨by rw [decide_eq_true_iff]; omega, by rw [decide_eq_false_iff_not]; omega⟩
    · exact .inl (by rw [decide_eq_false_iff_not]; omega)
  have H1 := Lib.hid h1; clear h1
  rcases body with g1 | ⟨g1, g2⟩
  all_goals
    go_enter Tryd.func6, Tryd.ntmps6
    go_wp2_with (go_at_call 25; refine (KP.out _).mono ?_; rintro e w3 ⟨rfl, hb3⟩; refine Hid.out ?_)
    have HB3 := Lib.hid hb3; clear hb3
    refine Lib.hid ?_
    go_wp2_with (go_at_call 26; refine (KQ.out _).mono ?_; rintro e w4 ⟨rfl, hb4⟩; refine Hid.out ?_)
    have HB4 := Lib.hid (Below.chain HB3.out hb4); clear hb4
    refine Lib.hid ?_
    go_wp2_with (go_at_call 27; refine (KS.out _ HB4.out).mono ?_; rintro e w5 ⟨rfl, hb5⟩; refine Hid.out ?_)
    have HB5 := Lib.hid (Below.chain HB4.out hb5); clear hb5
    refine Lib.hid ?_
    go_wp2_with (go_at_call 28; refine (KR.out _).mono ?_; rintro e w6 ⟨rfl, hb6⟩; refine Hid.out ?_)
    have HB6 := Lib.hid (Below.chain HB5.out hb6); clear hb6
    refine Lib.hid ?_
    go_wp2_with (go_at_call 11; refine (KA.out _ HB6.out).mono ?_; rintro e w7 ⟨rfl, hb7⟩; refine Hid.out ?_)
    have HB7 := Lib.hid (Below.chain HB6.out hb7); clear hb7
    refine Lib.hid ?_
    go_wp2
    go_ret
    exact ⟨rfl, HB7.out⟩
end Go.Proofs.YtmogmneaomndeaaDoor
