/-
  The law LexerJoins.
-/
import Derived.Test.YtmogmneaomndeaaDoorLexK
import Derived.Test.YtmogmneaomndeaaDoorLexU
set_option linter.unusedSimpArgs false
set_option linter.unusedVariables false
namespace Go.Proofs.YtmogmneaomndeaaDoor
open Go Go.Proofs Go.RowKit

set_option maxHeartbeats 400000 in
theorem ljoins_walk (l : List Tk) (ao : Option Addr) (c : Nat) (mx : Int) (w : World) (hr : TRow w ao c l) (hz : ∀ t ∈ l, t.t.size ≤ 9223372036854775807) (hc : ao = none → c = 0) (ht : Lib.TabBelow Tryd.prog w.heap.size w "surveyor/lexer.classes" .u8 clsTab) (hm : w.cell? ⟨0, 0, none⟩ = some (.int .i64 mx)) (hw : 0 < w.heap.size) :
    Calls Tryd.prog 5 #[.slice ao l.length c] w fun e w' => e = .returned (.bool true) ∧ Below w.heap.size w w' := by
  have CA : ∀ W, Below w.heap.size w W → Calls Tryd.prog 11 #[] W fun e w' => e = .returned (.bool true) ∧ Below W.heap.size W w' := fun W hW => awake_any mx W (Lib.tabBelow_of_tabIs (ht W hW)) (by rw [hW.cell (p := ⟨0, 0, none⟩) hw]; exact hm) (Nat.lt_of_lt_of_le hw hW.size)
  have CF := few_any l ao c w hr hc
  have CJ : l.length ≤ 60 → ∀ W, Below w.heap.size w W → Calls Tryd.prog 23 #[.slice ao l.length c] W fun e w' => e = .returned (.tuple #[.string (joinR l).1, .int .i64 ((joinR l).2 : Nat)]) ∧ Below W.heap.size W w' := fun h W hW => join_any l ao c W (hr.keep hW) hz (fun q t ht => Nat.le_trans (ck_short q t ht) (by decide)) (by omega) (Lib.tabBelow_of_tabIs (ht W hW))
  have CR : l.length ≤ 60 → ∀ W, Below w.heap.size w W → Calls Tryd.prog 24 #[.slice ao l.length c] W fun e w' => e = .returned (.tuple #[.string (joinR l).1, .int .i64 ((joinR l).2 : Nat)]) ∧ Below W.heap.size W w' := fun h W hW => refJoin_any l ao c W (hr.keep hW) hz (by omega)
  generalize joinR l = R at *
  obtain ⟨r1, r2⟩ := R
  dsimp only at CJ CR
  generalize l.length = n at *
  have KA := Lib.hid CA; have KF := Lib.hid CF; have KJ := Lib.hid CJ; have KR := Lib.hid CR
  clear CA CF CJ CR ht hm hw hr hz hc
  go_enter Tryd.func5, Tryd.ntmps5
  go_wp2_with (go_at_call 22; refine KF.out.mono ?_; rintro e w3 ⟨v3, rfl, hf, hb3⟩; refine Hid.out ?_)
  obtain ⟨r, rfl, hr3⟩ := hf
  have HB3 := Lib.hid hb3; have HF := Lib.hid hr3; clear hb3 hr3
  cases r
  · refine Lib.hid ?_
    go_wp2_with (go_at_call 11; refine (KA.out _ HB3.out).mono ?_; rintro e w4 ⟨rfl, hb4⟩; refine Hid.out ?_)
    have HB4 := Lib.hid (Below.chain HB3.out hb4); clear hb4
    refine Lib.hid ?_
    go_wp2
    go_ret
    exact ⟨rfl, HB4.out⟩
  · have H60 := Lib.hid (HF.out rfl)
    clear HF
    have KJ3 := Lib.hid (KJ.out H60.out _ HB3.out)
    refine Lib.hid ?_
    go_wp2_with (go_at_call 23; refine KJ3.out.mono ?_; rintro e w4 ⟨rfl, hb4⟩; refine Hid.out ?_)
    have HB4 := Lib.hid (Below.chain HB3.out hb4); clear hb4
    refine Lib.hid ?_
    have KR4 := Lib.hid (KR.out H60.out _ HB4.out)
    go_wp2_with (go_at_call 24; refine KR4.out.mono ?_; rintro e w5 ⟨rfl, hb5⟩; refine Hid.out ?_)
    have HB5 := Lib.hid (Below.chain HB4.out hb5); clear hb5
    refine Lib.hid ?_
    go_wp2_with (go_at_call 11; refine (KA.out _ HB5.out).mono ?_; rintro e w6 ⟨rfl, hb6⟩; refine Hid.out ?_)
    have HB6 := Lib.hid (Below.chain HB5.out hb6); clear hb6
    refine Lib.hid ?_
    go_wp2
    go_ret
    exact ⟨rfl, HB6.out⟩
end Go.Proofs.YtmogmneaomndeaaDoor
