/-
  The law LexerStrips.
-/
import Derived.Test.YtmogmneaomndeaaDoorLexK
import Derived.Test.YtmogmneaomndeaaDoorLexV
import Derived.Test.YtmogmneaomndeaaDoorLScans
set_option linter.unusedSimpArgs false
set_option linter.unusedVariables false
namespace Go.Proofs.YtmogmneaomndeaaDoor
open Go Go.Proofs Go.RowKit

set_option maxHeartbeats 400000 in
theorem lstrips_walk (s : ByteArray) (hsz : s.size ≤ 9223372036854775807) (mx : Int) (w : World) (ht : Lib.TabBelow Tryd.prog w.heap.size w "surveyor/lexer.classes" .u8 clsTab) (hm : w.cell? ⟨0, 0, none⟩ = some (.int .i64 mx)) (hw : 0 < w.heap.size) :
    Calls Tryd.prog 9 #[.string s] w fun e w' => e = .returned (.bool true) ∧ Below w.heap.size w w' := by
  have CA : ∀ W, Below w.heap.size w W → Calls Tryd.prog 11 #[] W fun e w' => e = .returned (.bool true) ∧ Below W.heap.size W w' := fun W hW => awake_any mx W (Lib.tabBelow_of_tabIs (ht W hW)) (by rw [hW.cell (p := ⟨0, 0, none⟩) hw]; exact hm) (Nat.lt_of_lt_of_le hw hW.size)
  by_cases h1 : 600 < s.size
  · have g1 : decide ((600 : Int) < (s.size : Int)) = true := by rw [decide_eq_true_iff]; omega
    have H1 := Lib.hid h1; have KA := Lib.hid CA; clear h1 CA ht hm hw hsz
    go_enter Tryd.func9, Tryd.ntmps9
    go_wp2_with (go_at_call 11; refine (KA.out _ (Below.refl _ _)).mono ?_; rintro e w3 ⟨rfl, hb3⟩; refine Hid.out ?_)
    have HB3 := Lib.hid hb3; clear hb3
    refine Lib.hid ?_
    go_wp2
    go_ret
    exact ⟨rfl, HB3.out⟩
  have g1 : decide ((600 : Int) < (s.size : Int)) = false := by rw [decide_eq_false_iff_not]; omega
  have hle : s.size ≤ 65536 := by omega
  obtain ⟨S, hS⟩ : ∃ S, S = str (stB false (bytes s)) := ⟨_, rfl⟩
  have hb : bytes S = stB false (bytes s) := by rw [hS, bytes_str]
  have hSs : S.size ≤ 600 := by
    have := st_len false (bytes s)
    rw [← hb, bytes_length, bytes_length] at this
    omega
  have hno : (35 : UInt8) ∉ bytes S := by rw [hb]; exact st_none false _
  have e1 : stripR s = (S, 0) := by rw [stripR_st hle, hS]
  have e2 : stripR S = (S, 0) := by rw [stripR_st (by omega), st_id hno, str_bytes]
  obtain ⟨e3, e4⟩ := strip_scan hle
  rw [← hS] at e3 e4
  have e5 := (alB_iff _ _).2 e4
  have hl1 := scR_len (s := s)
  have CT : ∀ (x : ByteArray) W, Below w.heap.size w W → Calls Tryd.prog 27 #[.string x] W fun e w' => e = .returned (.tuple #[.string (stripR x).1, .int .i64 ((stripR x).2 : Nat)]) ∧ Below W.heap.size W w' := fun x W hW => strip_any x mx W (by rw [hW.cell (p := ⟨0, 0, none⟩) hw]; exact hm)
  have CS : ∀ (x : ByteArray) W, Below w.heap.size w W → Calls Tryd.prog 12 #[.string x] W fun e w' => ∃ ao c, e = .returned (.tuple #[.slice ao (scR x).1.length c, .int .i64 ((scR x).2.1 : Nat), .int .i64 ((scR x).2.2 : Nat)]) ∧ TRow w' ao c (scR x).1 ∧ Below W.heap.size W w' := fun x W hW => by
    refine (scan_any x W (Lib.tabBelow_of_tabIs (ht W hW))).mono ?_
    rintro e w' ⟨v, rfl, ho, hb⟩
    obtain ⟨ao, c, rfl, hr⟩ := TRow.of_owns ho
    exact ⟨ao, c, rfl, hr, hb⟩
  have CT1 := CT s; have CT2 := CT S
  rw [e1] at CT1
  rw [e2] at CT2
  have CS1 := CS s; have CS2 := CS S
  rw [e3] at CS2
  have CM := fun (W : World) ao bo c d (q1 : TRow W ao c (scR s).1) (q2 : TRow W bo d (scR S).1) => alike_any (scR s).1 (scR S).1 ao bo c d W q1 q2 (by omega)
  rw [e5] at CM
  have CC := fun W => Tryd.strings_Contains_one S 35 W
  have ec : decide (0 ≤ Lib.indexByte S.data.toList 35) = false := by
    rw [decide_eq_false_iff_not]
    rcases indexByte_cases (bytes S) 35 with ⟨h, -⟩ | ⟨i, -, -, he, -⟩
    · show ¬ 0 ≤ Lib.indexByte (bytes S) 35
      rw [h]; decide
    · exact absurd (by rw [he]; simp) hno
  rw [ec] at CC
  have CN : ∀ (x : ByteArray) W, Calls Tryd.prog 34 #[.string x, .string ⟨#[10]⟩] W fun e w' => e = .returned (.int .i64 ((bytes x).count 10 : Nat)) ∧ w' = W := fun x W => Tryd.strings_Count_one x 10 W
  have CN1 := CN s; have CN2 := CN S
  rw [hb, st_count] at CN2
  generalize (bytes s).count 10 = cn at *
  generalize (scR s).2.1 = at1 at *
  generalize (scR S).2.1 = at2 at *
  generalize (scR s).2.2 = er at *
  generalize (scR s).1 = L1 at *
  generalize (scR S).1 = L2 at *
  generalize L1.length = n1 at *
  generalize L2.length = n2 at *
  dsimp only at CT1 CT2
  have KA := Lib.hid CA; have KT1 := Lib.hid CT1; have KT2 := Lib.hid CT2; have KS1 := Lib.hid CS1; have KS2 := Lib.hid CS2; have KM := Lib.hid CM; have KC := Lib.hid CC; have KN1 := Lib.hid CN1; have KN2 := Lib.hid CN2; have H1 := Lib.hid h1; have HSs := Lib.hid hSs
  clear CA CT CS CT1 CT2 CS1 CS2 CM CC ec CN CN1 CN2 e1 e2 e3 e4 e5 hl1 hno hSs hb hS hle h1 ht hm hw hsz
  go_enter Tryd.func9, Tryd.ntmps9
  go_wp2_with (go_at_call 27; refine (KT1.out _ (Below.refl _ _)).mono ?_; rintro e w3 ⟨rfl, hb3⟩; refine Hid.out ?_)
  have HB3 := Lib.hid hb3; clear hb3
  refine Lib.hid ?_
  go_wp2_with (go_at_call 12; refine (KS1.out _ HB3.out).mono ?_; rintro e w4 ⟨a4, c4, rfl, hr4, hb4⟩; refine Hid.out ?_)
  have HR4 := Lib.hid hr4; have HB4 := Lib.hid (Below.chain HB3.out hb4); clear hr4 hb4
  refine Lib.hid ?_
  go_wp2_with (go_at_call 12; refine (KS2.out _ HB4.out).mono ?_; rintro e w5 ⟨a5, c5, rfl, hr5, hb5⟩; refine Hid.out ?_)
  have HR45 := Lib.hid (HR4.out.keep hb5); have HR5 := Lib.hid hr5; have HB5 := Lib.hid (Below.chain HB4.out hb5); clear hr5 hb5
  refine Lib.hid ?_
  go_wp2_with (go_at_call 27; refine (KT2.out _ HB5.out).mono ?_; rintro e w6 ⟨rfl, hb6⟩; refine Hid.out ?_)
  have HR46 := Lib.hid (HR45.out.keep hb6); have HR56 := Lib.hid (HR5.out.keep hb6); have HB6 := Lib.hid (Below.chain HB5.out hb6); clear hb6
  refine Lib.hid ?_
  go_wp2_with (go_at_call 33; refine (KC.out _).mono ?_; rintro e w7 ⟨rfl, h7⟩; subst h7; refine Hid.out ?_)
  refine Lib.hid ?_
  go_wp2_with (go_at_call 32; refine (KM.out _ _ _ _ _ HR46.out HR56.out).mono ?_; rintro e w8 ⟨rfl, hb8⟩; refine Hid.out ?_)
  have HB8 := Lib.hid (Below.chain HB6.out hb8); clear hb8
  refine Lib.hid ?_
  go_wp2_with (go_at_call 34; refine (KN2.out _).mono ?_; rintro e w9 ⟨rfl, h9⟩; subst h9; refine Hid.out ?_)
  refine Lib.hid ?_
  go_wp2_with (go_at_call 34; refine (KN1.out _).mono ?_; rintro e w9 ⟨rfl, h9⟩; subst h9; refine Hid.out ?_)
  refine Lib.hid ?_
  go_wp2_with (go_at_call 11; refine (KA.out _ HB8.out).mono ?_; rintro e wa ⟨rfl, hba⟩; refine Hid.out ?_)
  have HBA := Lib.hid (Below.chain HB8.out hba); clear hba
  refine Lib.hid ?_
  go_wp2
  go_ret
  exact ⟨rfl, HBA.out⟩
end Go.Proofs.YtmogmneaomndeaaDoor
