/-
  The law LexerScans.
-/
import Derived.Test.YtmogmneaomndeaaDoorLexK
import Derived.Test.YtmogmneaomndeaaDoorLexO
set_option linter.unusedSimpArgs false
set_option linter.unusedVariables false
namespace Go.Proofs.YtmogmneaomndeaaDoor
open Go Go.Proofs Go.RowKit

theorem scF_len (s : ByteArray) : ∀ (f a : Nat), (scF s f a).1.length ≤ f
  | 0, _ => Nat.le_refl _
  | f + 1, a => by
    have ih := scF_len s f (nx s a)
    rw [scF]
    split
    · simp
    · split
      · simp; omega
      · simp
theorem scR_len {s : ByteArray} : (scR s).1.length ≤ 65537 := by
  have := scF_len s (s.size + 1) (skM false (bytes s))
  unfold scR
  split
  · simp
  · split
    · omega
    · simp
theorem smB_self (l : List Tk) : smB l l = true := by
  unfold smB tkB
  rw [decide_eq_true rfl, Bool.true_and, List.all_eq_true]
  intro j _
  rw [beq_toListBytes]
  simp

set_option maxHeartbeats 400000 in
theorem lscans_walk (s : ByteArray) (hsz : s.size ≤ 9223372036854775807) (mx : Int) (w : World) (ht : Lib.TabBelow Tryd.prog w.heap.size w "surveyor/lexer.classes" .u8 clsTab) (hm : w.cell? ⟨0, 0, none⟩ = some (.int .i64 mx)) (hw : 0 < w.heap.size) :
    Calls Tryd.prog 3 #[.string s] w fun e w' => e = .returned (.bool true) ∧ Below w.heap.size w w' := by
  have CA : ∀ W, Below w.heap.size w W → Calls Tryd.prog 11 #[] W fun e w' => e = .returned (.bool true) ∧ Below W.heap.size W w' := fun W hW => awake_any mx W (Lib.tabBelow_of_tabIs (ht W hW)) (by rw [hW.cell (p := ⟨0, 0, none⟩) hw]; exact hm) (Nat.lt_of_lt_of_le hw hW.size)
  have CS : ∀ W, Below w.heap.size w W → Calls Tryd.prog 12 #[.string s] W fun e w' => ∃ ao c, e = .returned (.tuple #[.slice ao (scR s).1.length c, .int .i64 ((scR s).2.1 : Nat), .int .i64 ((scR s).2.2 : Nat)]) ∧ TRow w' ao c (scR s).1 ∧ Below W.heap.size W w' := fun W hW => by
    refine (scan_any s W (Lib.tabBelow_of_tabIs (ht W hW))).mono ?_
    rintro e w' ⟨v, rfl, ho, hb⟩
    obtain ⟨ao, c, rfl, hr⟩ := TRow.of_owns ho
    exact ⟨ao, c, rfl, hr, hb⟩
  have CR : ∀ W, Calls Tryd.prog 13 #[.string s] W fun e w' => ∃ ao c, e = .returned (.tuple #[.slice ao (scR s).1.length c, .int .i64 ((scR s).2.1 : Nat), .int .i64 ((scR s).2.2 : Nat)]) ∧ TRow w' ao c (scR s).1 ∧ Below W.heap.size W w' := fun W => by
    refine (refScan_any s W).mono ?_
    rintro e w' ⟨v, rfl, ho, hb⟩
    obtain ⟨ao, c, rfl, hr⟩ := TRow.of_owns ho
    exact ⟨ao, c, rfl, hr, hb⟩
  have hlen := scR_len (s := s)
  have CM : ∀ (W : World) (ao bo : Option Addr) (c d : Nat), TRow W ao c (scR s).1 → TRow W bo d (scR s).1 → Calls Tryd.prog 14 #[.slice ao (scR s).1.length c, .slice bo (scR s).1.length d] W fun e w' => e = .returned (.bool true) ∧ Below W.heap.size W w' := fun W ao bo c d h1 h2 => by
    have := same_any (scR s).1 (scR s).1 ao bo c d W h1 h2 (by omega)
    rwa [smB_self] at this
  generalize (scR s).1 = L at *
  generalize (scR s).2.1 = at_ at *
  generalize (scR s).2.2 = er at *
  have KA := Lib.hid CA; have KS := Lib.hid CS; have KR := Lib.hid CR; have KM := Lib.hid CM; have HL := Lib.hid hlen
  clear CA CS CR CM hlen ht hm hw
  by_cases h1 : 1000 < s.size ∧ s.size ≤ 65536
  · have g1 : decide ((1000 : Int) < (s.size : Int)) = true := by rw [decide_eq_true_iff]; omega
    have g2 : decide ((s.size : Int) ≤ (65536 : Int)) = true := by rw [decide_eq_true_iff]; omega
    have H1 := Lib.hid h1; clear h1
    go_enter Tryd.func3, Tryd.ntmps3
    go_wp2_with (go_at_call 11; refine (KA.out _ (Below.refl _ _)).mono ?_; rintro e w3 ⟨rfl, hb3⟩; refine Hid.out ?_)
    have HB3 := Lib.hid hb3; clear hb3
    refine Lib.hid ?_
    go_wp2
    go_ret
    exact ⟨rfl, HB3.out⟩
  have body : (decide ((1000 : Int) < (s.size : Int)) = false) ∨ (decide ((1000 : Int) < (s.size : Int)) = true ∧ decide ((s.size : Int) ≤ (65536 : Int)) = false) := by
    by_cases q : 1000 < s.size
    · exact .inr ⟨by rw [decide_eq_true_iff]; omega, by rw [decide_eq_false_iff_not]; omega⟩
    · exact .inl (by rw [decide_eq_false_iff_not]; omega)
  have H1 := Lib.hid h1; clear h1
  rcases body with g1 | ⟨g1, g2⟩
  all_goals
    go_enter Tryd.func3, Tryd.ntmps3
    go_wp2_with (go_at_call 12; refine (KS.out _ (Below.refl _ _)).mono ?_; rintro e w3 ⟨a3, c3, rfl, hr3, hb3⟩; refine Hid.out ?_)
    have HR3 := Lib.hid hr3; have HB3 := Lib.hid hb3; clear hr3 hb3
    refine Lib.hid ?_
    go_wp2_with (go_at_call 13; refine (KR.out _).mono ?_; rintro e w4 ⟨a4, c4, rfl, hr4, hb4⟩; refine Hid.out ?_)
    have HR34 := Lib.hid (HR3.out.keep hb4)
    have HR4 := Lib.hid hr4; have HB4 := Lib.hid (Below.chain HB3.out hb4); clear hr4 hb4
    refine Lib.hid ?_
    go_wp2_with (go_at_call 14; refine (KM.out _ _ _ _ _ HR34.out HR4.out).mono ?_; rintro e w5 ⟨rfl, hb5⟩; refine Hid.out ?_)
    have HB5 := Lib.hid (Below.chain HB4.out hb5); clear hb5
    refine Lib.hid ?_
    go_wp2_with (go_at_call 11; refine (KA.out _ HB5.out).mono ?_; rintro e w6 ⟨rfl, hb6⟩; refine Hid.out ?_)
    have HB6 := Lib.hid (Below.chain HB5.out hb6); clear hb6
    refine Lib.hid ?_
    go_wp2
    go_ret
    exact ⟨rfl, HB6.out⟩
end Go.Proofs.YtmogmneaomndeaaDoor
