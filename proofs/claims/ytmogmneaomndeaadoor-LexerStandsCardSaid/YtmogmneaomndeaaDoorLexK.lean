/-
  surveyorlaw08.awake.
-/
import Derived.Test.YtmogmneaomndeaaDoorLexJ
import Derived.Test.YtmogmneaomndeaaDoorLexI
import Derived.Test.YtmogmneaomndeaaDoorLexF
set_option linter.unusedSimpArgs false
set_option linter.unusedVariables false
namespace Go.Proofs.YtmogmneaomndeaaDoor
open Go Go.Proofs Go.RowKit

def aw1 : List Tk := [(⟨0, ⟨#[120, 49]⟩, 0⟩ : Tk), (⟨2, ⟨#[58, 61]⟩, 3⟩ : Tk), (⟨1, ⟨#[50]⟩, 6⟩ : Tk), (⟨2, ⟨#[59]⟩, 7⟩ : Tk), (⟨3, ⟨#[]⟩, 14⟩ : Tk)]
def aw5 : List Tk := [(⟨0, ⟨#[120]⟩, 0⟩ : Tk), (⟨2, ⟨#[61]⟩, 2⟩ : Tk), (⟨2, ⟨#[61]⟩, 4⟩ : Tk), (⟨0, ⟨#[121]⟩, 6⟩ : Tk), (⟨2, ⟨#[60]⟩, 8⟩ : Tk), (⟨2, ⟨#[61]⟩, 10⟩ : Tk), (⟨3, ⟨#[]⟩, 11⟩ : Tk)]
theorem awS1 : scR ⟨#[120, 49, 32, 58, 61, 32, 50, 59, 32, 35, 32, 116, 119, 111]⟩ = (aw1, 0, 0) := by kernel_rfl
theorem awS2 : (scR ⟨#[97, 32, 58, 61, 32, 48, 49]⟩).2 = (5, 3) := by kernel_rfl
theorem awS3 : (scR ⟨#[51, 120]⟩).2 = (0, 4) := by kernel_rfl
theorem awS4 : (scR ⟨#[97, 32, 33, 32, 98]⟩).2 = (2, 4) := by kernel_rfl
theorem awS5 : scR ⟨#[120, 32, 61, 32, 61, 32, 121, 32, 60, 32, 61]⟩ = (aw5, 0, 0) := by kernel_rfl
theorem awJ : joinR aw5 = (⟨#[120, 61, 61, 121, 60, 32, 61]⟩, 0) := by kernel_rfl
theorem awT : stripR ⟨#[97, 32, 35, 32, 98, 10, 99]⟩ = (⟨#[97, 32, 10, 99]⟩, 0) := by kernel_rfl
theorem awN1 : nmE ⟨#[119, 104, 105, 108, 101]⟩ = 8 := by kernel_rfl
theorem awN2 : nmE ⟨#[119]⟩ = 0 := by kernel_rfl
theorem awE : smB aw1 aw1 = true := by kernel_rfl
theorem trow_new (W : World) (l : List Tk) (h : l.length ≤ maxLen) : TRow (W.alloc (Obj.cells (tkCells l).toArray 49)) (some ⟨W.heap.size, 0, none⟩) l.length l := by
  refine ⟨Nat.le_refl _, h, .inr ⟨W.heap.size, 0, rfl, by simp, fun j u hu => ?_⟩⟩
  rw [Nat.zero_add, World.cell?_alloc_new, List.getElem?_toArray]
  exact hu
/-- Scan where it finds no error. -/
theorem scan_row (s : ByteArray) (l : List Tk) (n : Nat) (hn : l.length = n) (h : scR s = (l, 0, 0)) (w : World) (ht : Lib.TabBelow Tryd.prog w.heap.size w "surveyor/lexer.classes" .u8 clsTab) :
    Calls Tryd.prog 12 #[.string s] w fun e w' => ∃ ao c, e = .returned (.tuple #[.slice ao n c, .int .i64 0, .int .i64 0]) ∧ TRow w' ao c l ∧ Below w.heap.size w w' := by
  refine (scan_any s w ht).mono ?_
  rintro e w' ⟨v, rfl, ho, hb⟩
  rw [h] at ho ⊢
  obtain ⟨ao, c, rfl, hr⟩ := TRow.of_owns ho
  exact ⟨ao, c, by rw [← hn]; rfl, hr, hb⟩
/-- Scan's error. -/
theorem scan_err (s : ByteArray) (a e0 : Nat) (h : (scR s).2 = (a, e0)) (w : World) (ht : Lib.TabBelow Tryd.prog w.heap.size w "surveyor/lexer.classes" .u8 clsTab) :
    Calls Tryd.prog 12 #[.string s] w fun e w' => ∃ v, e = .returned (.tuple #[v, .int .i64 (a : Nat), .int .i64 (e0 : Nat)]) ∧ Below w.heap.size w w' := by
  refine (scan_any s w ht).mono ?_
  rintro e w' ⟨v, rfl, ho, hb⟩
  rw [h]
  exact ⟨v, rfl, hb⟩

set_option maxRecDepth 20000 in
set_option maxHeartbeats 1000000 in
theorem awake_any (mx : Int) (w : World) (ht : Lib.TabBelow Tryd.prog w.heap.size w "surveyor/lexer.classes" .u8 clsTab) (hm : w.cell? ⟨0, 0, none⟩ = some (.int .i64 mx)) (hw : 0 < w.heap.size) :
    Calls Tryd.prog 11 #[] w fun e w' => e = .returned (.bool true) ∧ Below w.heap.size w w' := by
  have TT : ∀ W, Below w.heap.size w W → Lib.TabBelow Tryd.prog W.heap.size W "surveyor/lexer.classes" .u8 clsTab := fun W hW => Lib.tabBelow_of_tabIs (ht W hW)
  have S1 := fun W hW => scan_row _ _ 5 rfl awS1 W (TT W hW)
  have S2 := fun W hW => scan_err _ _ _ awS2 W (TT W hW)
  have S3 := fun W hW => scan_err _ _ _ awS3 W (TT W hW)
  have S4 := fun W hW => scan_err _ _ _ awS4 W (TT W hW)
  have S5 := fun W hW => scan_row _ _ 7 rfl awS5 W (TT W hW)
  have CJ : ∀ (W : World) (ao : Option Addr) (c : Nat), Below w.heap.size w W → TRow W ao c aw5 → Calls Tryd.prog 23 #[.slice ao 7 c] W fun e w' => e = .returned (.tuple #[.string ⟨#[120, 61, 61, 121, 60, 32, 61]⟩, .int .i64 0]) ∧ Below W.heap.size W w' := fun W ao c hW hr => by
    have := join_any aw5 ao c W hr (by decide) (fun _ => by decide) (by decide) (TT W hW)
    rwa [awJ] at this
  have CT : ∀ W : World, Below w.heap.size w W → Calls Tryd.prog 27 #[.string ⟨#[97, 32, 35, 32, 98, 10, 99]⟩] W fun e w' => e = .returned (.tuple #[.string ⟨#[97, 32, 10, 99]⟩, .int .i64 0]) ∧ Below W.heap.size W w' := fun W hW => by
    have := strip_any ⟨#[97, 32, 35, 32, 98, 10, 99]⟩ mx W (by rw [hW.cell (p := ⟨0, 0, none⟩) hw]; exact hm)
    rwa [awT] at this
  have N1 : ∀ W : World, Below w.heap.size w W → Calls Tryd.prog 18 #[.string ⟨#[119, 104, 105, 108, 101]⟩] W fun e w' => e = .returned (.int .i64 8) ∧ Below W.heap.size W w' := fun W hW => by
    have := name_any ⟨#[119, 104, 105, 108, 101]⟩ (by decide) W (ht W hW)
    rwa [awN1] at this
  have N2 : ∀ W : World, Below w.heap.size w W → Calls Tryd.prog 18 #[.string ⟨#[119]⟩] W fun e w' => e = .returned (.int .i64 0) ∧ Below W.heap.size W w' := fun W hW => by
    have := name_any ⟨#[119]⟩ (by decide) W (ht W hW)
    rwa [awN2] at this
  have CE : ∀ (W : World) (ao : Option Addr) (c : Nat), TRow W ao c aw1 → Calls Tryd.prog 14 #[.slice ao 5 c, .slice (some ⟨W.heap.size, 0, none⟩) 5 5] (W.alloc (Obj.cells #[.int .i64 0, .string ⟨#[120, 49]⟩, .int .i64 0, .int .i64 2, .string ⟨#[58, 61]⟩, .int .i64 3, .int .i64 1, .string ⟨#[50]⟩, .int .i64 6, .int .i64 2, .string ⟨#[59]⟩, .int .i64 7, .int .i64 3, .string ⟨#[]⟩, .int .i64 14] 49)) fun e w' => e = .returned (.bool true) ∧ Below W.heap.size W w' := fun W ao c hr => by
    have hA : Below W.heap.size W (W.alloc (Obj.cells #[.int .i64 0, .string ⟨#[120, 49]⟩, .int .i64 0, .int .i64 2, .string ⟨#[58, 61]⟩, .int .i64 3, .int .i64 1, .string ⟨#[50]⟩, .int .i64 6, .int .i64 2, .string ⟨#[59]⟩, .int .i64 7, .int .i64 3, .string ⟨#[]⟩, .int .i64 14] 49)) := (Below.refl _ _).alloc (Nat.le_refl _) _
    have := same_any aw1 aw1 ao (some ⟨W.heap.size, 0, none⟩) c 5 (W.alloc (Obj.cells #[.int .i64 0, .string ⟨#[120, 49]⟩, .int .i64 0, .int .i64 2, .string ⟨#[58, 61]⟩, .int .i64 3, .int .i64 1, .string ⟨#[50]⟩, .int .i64 6, .int .i64 2, .string ⟨#[59]⟩, .int .i64 7, .int .i64 3, .string ⟨#[]⟩, .int .i64 14] 49)) (hr.keep hA) (trow_new W aw1 (by decide)) (by decide)
    rw [awE] at this
    refine this.mono ?_
    rintro e w' ⟨h1, h2⟩
    exact ⟨h1, Below.chain hA h2⟩
  have K1 := Lib.hid S1; have K2 := Lib.hid S2; have K3 := Lib.hid S3; have K4 := Lib.hid S4; have K5 := Lib.hid S5
  have KJ := Lib.hid CJ; have KT := Lib.hid CT; have KN1 := Lib.hid N1; have KN2 := Lib.hid N2; have KE := Lib.hid CE
  clear TT S1 S2 S3 S4 S5 CJ CT N1 N2 CE ht hm hw
  go_enter Tryd.func11, Tryd.ntmps11
  go_wp2_with (go_at_call 12; refine (K1.out _ (Below.refl _ _)).mono ?_; rintro e w1 ⟨a1, c1, rfl, hr1, hb1⟩; refine Hid.out ?_)
  have HR1 := Lib.hid hr1; have HB1 := Lib.hid hb1
  clear hr1 hb1
  refine Lib.hid ?_
  go_wp2_with (go_at_call 14; refine (KE.out w1 a1 c1 HR1.out).mono ?_; rintro e w2 ⟨rfl, hb2⟩; refine Hid.out ?_)
  have HB2 := Lib.hid (Below.chain HB1.out hb2)
  clear hb2
  refine Lib.hid ?_
  go_wp2_with (go_at_call 12; refine (K2.out _ HB2.out).mono ?_; rintro e w3 ⟨v3, rfl, hb3⟩; refine Hid.out ?_)
  have HB3 := Lib.hid (Below.chain HB2.out hb3)
  clear hb3
  refine Lib.hid ?_
  go_wp2_with (go_at_call 12; refine (K3.out _ HB3.out).mono ?_; rintro e w4 ⟨v4, rfl, hb4⟩; refine Hid.out ?_)
  have HB4 := Lib.hid (Below.chain HB3.out hb4)
  clear hb4
  refine Lib.hid ?_
  go_wp2_with (go_at_call 12; refine (K4.out _ HB4.out).mono ?_; rintro e w5 ⟨v5, rfl, hb5⟩; refine Hid.out ?_)
  have HB5 := Lib.hid (Below.chain HB4.out hb5)
  clear hb5
  refine Lib.hid ?_
  go_wp2_with (go_at_call 12; refine (K5.out _ HB5.out).mono ?_; rintro e w6 ⟨a6, c6, rfl, hr6, hb6⟩; refine Hid.out ?_)
  have HR6 := Lib.hid hr6; have HB6 := Lib.hid (Below.chain HB5.out hb6)
  clear hr6 hb6
  refine Lib.hid ?_
  go_wp2_with (go_at_call 23; refine (KJ.out _ _ _ HB6.out HR6.out).mono ?_; rintro e w7 ⟨rfl, hb7⟩; refine Hid.out ?_)
  have HB7 := Lib.hid (Below.chain HB6.out hb7)
  clear hb7
  refine Lib.hid ?_
  go_wp2_with (go_at_call 27; refine (KT.out _ HB7.out).mono ?_; rintro e w8 ⟨rfl, hb8⟩; refine Hid.out ?_)
  have HB8 := Lib.hid (Below.chain HB7.out hb8)
  clear hb8
  refine Lib.hid ?_
  go_wp2_with (go_at_call 18; refine (KN1.out _ HB8.out).mono ?_; rintro e w9 ⟨rfl, hb9⟩; refine Hid.out ?_)
  have HB9 := Lib.hid (Below.chain HB8.out hb9)
  clear hb9
  refine Lib.hid ?_
  go_wp2_with (go_at_call 18; refine (KN2.out _ HB9.out).mono ?_; rintro e wa ⟨rfl, hba⟩; refine Hid.out ?_)
  have HBA := Lib.hid (Below.chain HB9.out hba)
  clear hba
  refine Lib.hid ?_
  go_wp2
  go_ret
  exact ⟨rfl, HBA.out⟩
end Go.Proofs.YtmogmneaomndeaaDoor
