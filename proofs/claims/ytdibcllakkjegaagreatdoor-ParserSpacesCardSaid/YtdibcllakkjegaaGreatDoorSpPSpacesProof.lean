import Derived.Test.YtdibcllakkjegaaGreatDoorCut27
import Derived.Test.YtdibcllakkjegaaGreatDoorSp1
import Derived.Test.YtdibcllakkjegaaGreatDoorSpClosedParserSpaces
import Derived.Test.YtdibcllakkjegaaGreatDoorTie
import Derived.Test.YtdibcllakkjegaaGreatDoorCards
import Derived.ChangeSame
import Derived.ChangeMaps5
import Derived.Handed
import Derived.SevenTiedAt
/-
  For all texts of at most 1000 bytes and all kinds of parts: where a text is such a part, the text with blanks or comments before all tokens has the same tree up to offsets; for other texts the law returns true, by the chapter's examples.
  Condition: the six listed package-level variables hold what the program's text lays in them (the card ties this).
-/
namespace Go.Proofs.YtdibcllakkjegaaGreatDoor
open Go Go.Proofs Go.ChangeShapes Go.WideShapes Go.ChangeAt Go.RowKit Go.ChangeMaps

set_option maxRecDepth 100000 in
theorem parserSpaces_lifted (os : Os) (started : os.Started) (H : Type) (enc : TypeId × Value → H) :
    ReturnsInHanded {} Tryz.checked os 6 .any (fun w args => (Rows.parserSpacesSpec.pre enc Tryz.prog Tryz.f6 [] false w args ∧ laidMetH Tryz.prog laidPar w) ∧ sizedMet enc Tryz.prog Tryz.f6 (OpenSpec.ofChange Rows.parserSpacesSpec) false w args)
      (Rows.parserSpacesSpec.post enc Tryz.prog Tryz.f6 false true false false) := by
  refine shaped_lift (C := Tryz.checked) (X := fun w _ => laidMetH Tryz.prog laidPar w) (fun _ _ _ hh h => h.of_heap hh) lexOwn started (by kernel_rfl) Tryz.func6
    (ChangeSpec.witness_shaped (enc := enc) (C := Tryz.checked) (os := os) (X := fun w _ => laidMetH Tryz.prog laidPar w) false (World.laidAll Tryz.prog os laidPar) #[.string ⟨#[]⟩, .int .u8 0, .int .u8 0] 8 rfl (World.shaped_of_ZipB (by kernel_rfl) (by kernel_rfl)) (by kernel_rfl) (by kernel_rfl) (by kernel_rfl) (parDoor os _)) ?_
  intro W base args ds gs before hval0 hW hL hsh
  have hval : ∀ (j : Nat) t v, Tryz.f6.params[j]? = some t → args[j]? = some v → Value.okWide Tryz.prog W .any base t v := hval0
  have hW' := hW
  obtain ⟨p, q, hA0, hV, rfl, hfz, hnd⟩ := hW
  have hA : DataW.TrodAll enc Tryz.prog W 0 (fun _ => true) true Tryz.f6.params.toList args.toList ds p := hA0
  rw [Tryz.params6] at hA hval
  obtain ⟨v0, vs0, d0, ds0, p0, q0, hargs, rfl, rfl, h0, r0⟩ := trodAll_cons hA
  obtain ⟨v1, vs1, d1, ds1, p1, q1, rfl, rfl, rfl, h1, r1⟩ := trodAll_cons r0
  obtain ⟨v2, vs2, d2, ds2, p2, q2, rfl, rfl, rfl, h2, r2⟩ := trodAll_cons r1
  obtain ⟨rfl, rfl, rfl⟩ := trodAll_nil r2
  obtain rfl : args = #[v0, v1, v2] := by cases args; simp_all
  obtain ⟨rfl, rfl⟩ := trodVars_none hV
  obtain ⟨s0, rfl, rfl, rfl, z0⟩ := open_string Tryz.underlying9 (hval 0 9 v0 rfl rfl) h0
  obtain ⟨s1, rfl, rfl, rfl, z1⟩ := open_int Tryz.underlying5 (hval 1 5 v1 rfl rfl) h1
  have z1' := (Lit.wf_int_iff .u8 s1).1 z1
  obtain ⟨m1, rfl⟩ : ∃ m : Nat, s1 = (m : Int) := ⟨s1.toNat, by have e : IntKind.u8.min = 0 := rfl; omega⟩
  have l1 : m1 < 256 := by have e : IntKind.u8.max = 255 := rfl; omega
  obtain ⟨s2, rfl, rfl, rfl, z2⟩ := open_int Tryz.underlying5 (hval 2 5 v2 rfl rfl) h2
  have z2' := (Lit.wf_int_iff .u8 s2).1 z2
  obtain ⟨m2, rfl⟩ : ∃ m : Nat, s2 = (m : Int) := ⟨s2.toNat, by have e : IntKind.u8.min = 0 := rfl; omega⟩
  have l2 : m2 < 256 := by have e : IntKind.u8.max = 255 := rfl; omega
  obtain ⟨htab, hev⟩ := par_of_laid hL
  clear hA0 hval0
  simp only [List.append_nil] at hW'
  refine (lspaces_walk s0 m1 m2 l1 l2 W ⟨Lib.tabBelow_of_tabIs htab, hev⟩).mono fun e W' ⟨he, hb⟩ => ?_
  subst he
  exact ⟨_, rfl, _, _, _, [], [], [], hW', (trodAll_cons_mk (shut_bool Tryz.underlying4 _) trodAll_mk0), (trodAll_cons_mk (shut_string Tryz.underlying9 z0) (trodAll_cons_mk (shut_int Tryz.underlying5 z1) (trodAll_cons_mk (shut_int Tryz.underlying5 z2) trodAll_mk0))), rfl, hb.frame _, fun h => by cases h⟩

theorem parserSpaces_over : Rows.parserSpacesRow.holds Tryz.pinned (OpenSpec.ofChange Rows.parserSpacesSpec) :=
  OpenClaim.holds_of_wide 6 Tryz.f6 rfl rfl rfl rfl rfl rfl rfl ⟨rfl, rfl, rfl, rfl, rfl⟩ rfl rfl rfl rfl rfl parserSpaces_named Tryz.func6 parserSpaces_closed
    parserSpaces_inst parserSpaces_wrap (fun os started H enc _ => parserSpaces_lifted os started H enc)

theorem parserSpaces_holds : Rows.ParserSpacesCardSaid :=
  Claim7.holds_tied_plain_at .later [] [.data, .data, .data, .sentinel, .sentinel, .data] true Rows.parserSpacesCard.stood.harness true
    parserSpaces_over (fun _ h => by cases h) (by as_aux_lemma => kernel_rfl) (fun _ h => by cases h) parserSpaces_row_tie rfl ⟨rfl, rfl⟩ (by as_aux_lemma => kernel_rfl) rfl
    (fun f fn hf hfn => by
      obtain rfl : f = 6 := Option.some.inj (parserSpaces_named.symm.trans hf) |>.symm
      obtain rfl : fn = Tryz.f6 := (Option.some.inj (Tryz.func6.symm.trans hfn)).symm
      exact ⟨by as_aux_lemma => kernel_rfl, fun j t ht => by
        rw [Tryz.params6] at ht
        have h3 : t = 9 ∨ t = 5 := by
          rcases j with _ | _ | _ | j
          · left; simpa using ht.symm
          · right; simpa using ht.symm
          · right; simpa using ht.symm
          · simp at ht
        rcases h3 with rfl | rfl
        · exact (show Tryz.prog.wantsStandIn 9 = false by as_aux_lemma => kernel_rfl)
        · exact (show Tryz.prog.wantsStandIn 5 = false by as_aux_lemma => kernel_rfl)⟩)
    (by as_aux_lemma => kernel_rfl)
#print axioms parserSpaces_holds
end Go.Proofs.YtdibcllakkjegaaGreatDoor

