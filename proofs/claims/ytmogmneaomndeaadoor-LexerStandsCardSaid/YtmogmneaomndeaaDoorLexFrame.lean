/-
  What the lexer's rows say of the listed variables and of the world's shape.
-/
import Derived.Test.YtmogmneaomndeaaDoorRows
import Derived.Test.YtmogmneaomndeaaDoorLexA
import Derived.HandedShaped
import Derived.Handed
import Derived.Lay
import Derived.LaidMore
import Derived.LaidLaws
import Derived.LaidHandle
import Derived.MakeChecks
import Derived.Lib.LaidTab
import Derived.Stop.Joined
import Derived.Stop.LaidErr
import Derived.OpenShut
import Derived.ProofKit
import Derived.DataShut
namespace Go.Proofs.YtmogmneaomndeaaDoor
open Go Go.Proofs Go.RowKit

theorem lexOwn : ownKnob Tryd.prog.godebug = none := by kernel_rfl
theorem gCls : Tryd.prog.globalNamed "surveyor/lexer.classes" = some 1 := by kernel_rfl
theorem gClsType : (Tryd.prog.globals[1]?).map (·.type) = some 97 := by kernel_rfl
/-- The list of the rows. -/
def laidLex : List (String × DataW Unit) := [("unicode/utf8.acceptRanges", Rows.laid_unicode_utf8_acceptRanges), ("surveyor/lexer.classes", Rows.laid_surveyor_lexer_classes), ("unicode/utf8.first", Rows.laid_unicode_utf8_first)]
set_option maxRecDepth 100000 in
theorem lexTab_of_laid {W : World} (h : laidMetH Tryd.prog laidLex W) : Lib.TabIs Tryd.prog W "surveyor/lexer.classes" .u8 clsTab := by
  rw [MakeChecks.laidMetH_plain _ _ _ (by kernel_rfl)] at h
  have h2 : laidMet Tryd.prog [("surveyor/lexer.classes", Rows.laid_surveyor_lexer_classes), ("unicode/utf8.first", Rows.laid_unicode_utf8_first)] W := h.tail
  exact Lib.tabIs_of_head gCls gClsType Tryd.underlying97 Tryd.underlying5 (by kernel_rfl) (by kernel_rfl) h2
set_option maxRecDepth 100000 in
theorem lexMax {W : World} (h : W.ShapedOpen Tryd.prog) : ∃ mx, W.cell? ⟨0, 0, none⟩ = some (.int .i64 mx) := by
  obtain ⟨s0, hs⟩ := cell_of_shapedOpen_int (P := Tryd.prog) (g := 0) (t := 3) (zero := #[.int .i64 0]) h (of_decide_eq_true (by kernel_rfl)) (by kernel_rfl) rfl (by kernel_rfl) (by kernel_rfl) Tryd.underlying3
  exact ⟨s0, hs⟩

set_option maxRecDepth 100000 in
theorem lexDoor (os : Os) (args : Array Value) : laidMetH Tryd.prog laidLex ((World.laidAll Tryd.prog os laidLex).forCall (fun _ _ => 0) ⟨#[], args, []⟩).memory := by
  rw [MakeChecks.laidMetH_plain _ _ _ (by kernel_rfl)]
  exact laidMet_laidAll _ (by kernel_rfl) (by kernel_rfl)
/-- A row over listed variables whose walk needs the world's shape too. -/
theorem shaped_lift {H : Type} {enc : TypeId × Value → H} {a : Assume} {C : Checked} {os : Os} {f : FuncId} {fn : Func} {s : ChangeSpec} {conds : List PathCond} {apart fresh handsOn again : Bool} {X : World → Array Value → Prop}
    (hX : ∀ (v v' : World) (args : Array Value), v.heap = v'.heap → X v args → X v' args)
    (hown : ownKnob C.prog.godebug = none) (started : os.Started) (noInit : C.prog.inits.idxOf? f = none) (hfn : C.prog.funcs[f]? = some fn)
    (witness : ∃ (v : World) (tape : Tape) (i : Input), v.os = os ∧ (v.forCall tape i).Shaped C.prog ∧ i.vars = [] ∧ Input.okWide C.prog (v.forCall tape i) .any v.heap.size f i ∧
      ((s.pre enc C.prog fn conds apart (v.forCall tape i).memory i.args ∧ X (v.forCall tape i).memory i.args) ∧ sizedMet enc C.prog fn (OpenSpec.ofChange s) apart (v.forCall tape i).memory i.args) ∧ a.holds C.prog (lone (Frame.enter C.prog f i.args .normal) [] (v.forCall tape i)))
    (contract : ∀ (W : World) (base : Nat) (args : Array Value) (ds gs : List (DataW H)) (before : List MemPlace),
      (∀ (j : Nat) t v, fn.params[j]? = some t → args[j]? = some v → Value.okWide C.prog W .any base t v) →
      DataW.Whole enc C.prog fn.params.toList s.vars apart W args.toList ds gs before → X W args → W.ShapedOpen C.prog →
      Calls C.prog f args W fun e W' => ∃ v, e = .returned v ∧ s.post enc C.prog fn apart fresh handsOn again W args v W') :
    ReturnsInHanded a C os f .any (fun v args => (s.pre enc C.prog fn conds apart v args ∧ X v args) ∧ sizedMet enc C.prog fn (OpenSpec.ofChange s) apart v args) (s.post enc C.prog fn apart fresh handsOn again) := by
  refine returnsInHanded_of_calls hown started noInit witness ?_
  intro v tape i _ hsh _ hin hpre _
  obtain ⟨_, _, _, g, hg, _, _, _, _, hval⟩ := hin
  obtain rfl : g = fn := Option.some.inj (hg.symm.trans hfn)
  obtain ⟨⟨⟨ds, gs, before, hw, -⟩, hx⟩, -⟩ := hpre
  refine (contract (v.forCall tape i) v.heap.size i.args ds gs before hval (DataW.Whole.of_heap (by rfl) hw) (hX _ _ _ (by rfl) hx) hsh).mono fun e W' ⟨r, he, hq⟩ => ?_
  subst he
  exact ChangeSpec.post_blind hq
end Go.Proofs.YtmogmneaomndeaaDoor
