import Derived.Test.YtenmmmdnpglkoaaGreatDoorCut21
import Derived.Test.YtenmmmdnpglkoaaGreatDoorPs1
import Derived.Test.YtenmmmdnpglkoaaGreatDoorPsClosedParserParses
import Derived.Test.YtenmmmdnpglkoaaGreatDoorTie
import Derived.Test.YtenmmmdnpglkoaaGreatDoorCards
import Derived.ChangeSame
import Derived.ChangeMaps5
import Derived.Handed
import Derived.SevenTiedAt
/-
  For all texts that are at most 2000 bytes or more than 65536: the program's reader and the reference's reader return the same tree, the same offset and the same code; for other texts the law returns true, by the chapter's examples.
  Condition: the six listed package-level variables hold what the program's text lays in them (the card ties this).
-/
namespace Go.Proofs.YtenmmmdnpglkoaaGreatDoor
open Go Go.Proofs Go.ChangeShapes Go.WideShapes Go.ChangeAt Go.RowKit Go.ChangeMaps

set_option maxRecDepth 100000 in
theorem parserParses_lifted (os : Os) (started : os.Started) (H : Type) (enc : TypeId × Value → H) :
    ReturnsInHanded {} Tryz.checked os 3 .any (fun w args => (Rows.parserParsesSpec.pre enc Tryz.prog Tryz.f3 [] false w args ∧ laidMetH Tryz.prog jgW w) ∧ sizedMet enc Tryz.prog Tryz.f3 (OpenSpec.ofChange Rows.parserParsesSpec) false w args)
      (Rows.parserParsesSpec.post enc Tryz.prog Tryz.f3 false true false false) := by
  refine jlk (C := Tryz.checked) (X := fun w _ => laidMetH Tryz.prog jgW w) (fun _ _ _ hh h => h.of_heap hh) lexOwn started (by kernel_rfl) Tryz.func3
    (ChangeSpec.witness_shaped (enc := enc) (C := Tryz.checked) (os := os) (X := fun w _ => laidMetH Tryz.prog jgW w) false (World.laidAll Tryz.prog os jgW) #[.string ⟨#[]⟩] 8 rfl (World.shaped_of_ZipB (by kernel_rfl) (by kernel_rfl)) (by kernel_rfl) (by kernel_rfl) (by kernel_rfl) (jmF os _)) ?_
  intro W base args ds gs before hval0 hW hL hsh
  have hval : ∀ (j : Nat) t v, Tryz.f3.params[j]? = some t → args[j]? = some v → Value.okWide Tryz.prog W .any base t v := hval0
  have hW' := hW
  obtain ⟨p, q, hA0, hV, rfl, hfz, hnd⟩ := hW
  have hA : DataW.TrodAll enc Tryz.prog W 0 (fun _ => true) true Tryz.f3.params.toList args.toList ds p := hA0
  rw [Tryz.params3] at hA hval
  obtain ⟨v0, vs0, d0, ds0, p0, q0, hargs, rfl, rfl, h0, r0⟩ := trodAll_cons hA
  obtain ⟨rfl, rfl, rfl⟩ := trodAll_nil r0
  obtain rfl : args = #[v0] := by cases args; simp_all
  obtain ⟨rfl, rfl⟩ := trodVars_none hV
  obtain ⟨s0, rfl, rfl, rfl, z0⟩ := open_string Tryz.underlying9 (hval 0 9 v0 rfl rfl) h0
  obtain ⟨htab, hev⟩ := jlj hL
  clear hA0 hval0
  simp only [List.append_nil] at hW'
  refine (lparses_walk s0  W ⟨Lib.tabBelow_of_tabIs htab, hev⟩).mono fun e W' ⟨he, hb⟩ => ?_
  subst he
  exact ⟨_, rfl, _, _, _, [], [], [], hW', (trodAll_cons_mk (shut_bool Tryz.underlying4 _) trodAll_mk0), (trodAll_cons_mk (shut_string Tryz.underlying9 z0) trodAll_mk0), rfl, hb.frame _, fun h => by cases h⟩

theorem parserParses_over : Rows.parserParsesRow.holds Tryz.pinned (OpenSpec.ofChange Rows.parserParsesSpec) :=
  OpenClaim.holds_of_wide 3 Tryz.f3 rfl rfl rfl rfl rfl rfl rfl ⟨rfl, rfl, rfl, rfl, rfl⟩ rfl rfl rfl rfl rfl parserParses_named Tryz.func3 parserParses_closed
    parserParses_inst parserParses_wrap (fun os started H enc _ => parserParses_lifted os started H enc)

theorem parserParses_holds : Rows.ParserParsesCardSaid :=
  Claim7.holds_tied_plain_at .later [] [.data, .data, .data, .sentinel, .sentinel, .data] true Rows.parserParsesCard.stood.harness true
    parserParses_over (fun _ h => by cases h) (by as_aux_lemma => kernel_rfl) (fun _ h => by cases h) parserParses_row_tie rfl ⟨rfl, rfl⟩ (by as_aux_lemma => kernel_rfl) rfl
    (fun f fn hf hfn => by
      obtain rfl : f = 3 := Option.some.inj (parserParses_named.symm.trans hf) |>.symm
      obtain rfl : fn = Tryz.f3 := (Option.some.inj (Tryz.func3.symm.trans hfn)).symm
      exact ⟨by as_aux_lemma => kernel_rfl, fun j t ht => by
        rw [Tryz.params3] at ht
        have h3 : t = 9 := by
          rcases j with _ | j
          · simpa using ht.symm
          · simp at ht
        subst h3
        exact (show Tryz.prog.wantsStandIn 9 = false by as_aux_lemma => kernel_rfl)⟩)
    (by as_aux_lemma => kernel_rfl)
#print axioms parserParses_holds
end Go.Proofs.YtenmmmdnpglkoaaGreatDoor

