import Derived.Test.YtdibcllakkjegaaGreatDoorCut27
import Derived.Test.YtdibcllakkjegaaGreatDoorCu1
import Derived.Test.YtdibcllakkjegaaGreatDoorCu2
import Derived.Test.YtdibcllakkjegaaGreatDoorCu4
import Derived.Test.YtdibcllakkjegaaGreatDoorCu3
import Derived.Test.YtdibcllakkjegaaGreatDoorCuClosedParserCuts
import Derived.Test.YtdibcllakkjegaaGreatDoorTie
import Derived.Test.YtdibcllakkjegaaGreatDoorCards
import Derived.ChangeSame
import Derived.ChangeMaps5
import Derived.Handed
import Derived.SevenTiedAt
/-
  For all texts of at most 1500 bytes that are procedures, the text before the last token is an error at its end, as a procedure and as a program; for other texts the law returns true, by the chapter's examples.
  Condition: the six listed package-level variables hold what the program's text lays in them (the card ties this).
-/
namespace Go.Proofs.YtdibcllakkjegaaGreatDoor
open Go Go.Proofs Go.ChangeShapes Go.WideShapes Go.ChangeAt Go.RowKit Go.ChangeMaps

set_option maxRecDepth 100000 in
theorem parserCuts_lifted (os : Os) (started : os.Started) (H : Type) (enc : TypeId × Value → H) :
    ReturnsInHanded {} Tryz.checked os 10 .any (fun w args => (Rows.parserCutsSpec.pre enc Tryz.prog Tryz.f10 [] false w args ∧ laidMetH Tryz.prog laidPar w) ∧ sizedMet enc Tryz.prog Tryz.f10 (OpenSpec.ofChange Rows.parserCutsSpec) false w args)
      (Rows.parserCutsSpec.post enc Tryz.prog Tryz.f10 false true false false) := by
  refine shaped_lift (C := Tryz.checked) (X := fun w _ => laidMetH Tryz.prog laidPar w) (fun _ _ _ hh h => h.of_heap hh) lexOwn started (by kernel_rfl) Tryz.func10
    (ChangeSpec.witness_shaped (enc := enc) (C := Tryz.checked) (os := os) (X := fun w _ => laidMetH Tryz.prog laidPar w) false (World.laidAll Tryz.prog os laidPar) #[.string ⟨#[]⟩] 8 rfl (World.shaped_of_ZipB (by kernel_rfl) (by kernel_rfl)) (by kernel_rfl) (by kernel_rfl) (by kernel_rfl) (parDoor os _)) ?_
  intro W base args ds gs before hval0 hW hL hsh
  have hval : ∀ (j : Nat) t v, Tryz.f10.params[j]? = some t → args[j]? = some v → Value.okWide Tryz.prog W .any base t v := hval0
  have hW' := hW
  obtain ⟨p, q, hA0, hV, rfl, hfz, hnd⟩ := hW
  have hA : DataW.TrodAll enc Tryz.prog W 0 (fun _ => true) true Tryz.f10.params.toList args.toList ds p := hA0
  rw [Tryz.params10] at hA hval
  obtain ⟨v0, vs0, d0, ds0, p0, q0, hargs, rfl, rfl, h0, r0⟩ := trodAll_cons hA
  obtain ⟨rfl, rfl, rfl⟩ := trodAll_nil r0
  obtain rfl : args = #[v0] := by cases args; simp_all
  obtain ⟨rfl, rfl⟩ := trodVars_none hV
  obtain ⟨s0, rfl, rfl, rfl, z0⟩ := open_string Tryz.underlying9 (hval 0 9 v0 rfl rfl) h0
  obtain ⟨htab, hev⟩ := par_of_laid hL
  clear hA0 hval0
  simp only [List.append_nil] at hW'
  refine (lcuts_walk s0  W ⟨Lib.tabBelow_of_tabIs htab, hev⟩).mono fun e W' ⟨he, hb⟩ => ?_
  subst he
  exact ⟨_, rfl, _, _, _, [], [], [], hW', (trodAll_cons_mk (shut_bool Tryz.underlying4 _) trodAll_mk0), (trodAll_cons_mk (shut_string Tryz.underlying9 z0) trodAll_mk0), rfl, hb.frame _, fun h => by cases h⟩

theorem parserCuts_over : Rows.parserCutsRow.holds Tryz.pinned (OpenSpec.ofChange Rows.parserCutsSpec) :=
  OpenClaim.holds_of_wide 10 Tryz.f10 rfl rfl rfl rfl rfl rfl rfl ⟨rfl, rfl, rfl, rfl, rfl⟩ rfl rfl rfl rfl rfl parserCuts_named Tryz.func10 parserCuts_closed
    parserCuts_inst parserCuts_wrap (fun os started H enc _ => parserCuts_lifted os started H enc)

theorem parserCuts_holds : Rows.ParserCutsCardSaid :=
  Claim7.holds_tied_plain_at .later [] [.data, .data, .data, .sentinel, .sentinel, .data] true Rows.parserCutsCard.stood.harness true
    parserCuts_over (fun _ h => by cases h) (by as_aux_lemma => kernel_rfl) (fun _ h => by cases h) parserCuts_row_tie rfl ⟨rfl, rfl⟩ (by as_aux_lemma => kernel_rfl) rfl
    (fun f fn hf hfn => by
      obtain rfl : f = 10 := Option.some.inj (parserCuts_named.symm.trans hf) |>.symm
      obtain rfl : fn = Tryz.f10 := (Option.some.inj (Tryz.func10.symm.trans hfn)).symm
      exact ⟨by as_aux_lemma => kernel_rfl, fun j t ht => by
        rw [Tryz.params10] at ht
        have h3 : t = 9 := by
          rcases j with _ | j
          · simpa using ht.symm
          · simp at ht
        subst h3
        exact (show Tryz.prog.wantsStandIn 9 = false by as_aux_lemma => kernel_rfl)⟩)
    (by as_aux_lemma => kernel_rfl)
#print axioms parserCuts_holds
end Go.Proofs.YtdibcllakkjegaaGreatDoor

