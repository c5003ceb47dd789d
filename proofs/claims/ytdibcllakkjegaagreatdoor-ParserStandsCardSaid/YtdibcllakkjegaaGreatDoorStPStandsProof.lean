import Derived.Test.YtdibcllakkjegaaGreatDoorCut27
import Derived.Test.YtdibcllakkjegaaGreatDoorSt3
import Derived.Test.YtdibcllakkjegaaGreatDoorStClosedParserStands
import Derived.Test.YtdibcllakkjegaaGreatDoorTie
import Derived.Test.YtdibcllakkjegaaGreatDoorCards
import Derived.ChangeSame
import Derived.ChangeMaps5
import Derived.Handed
import Derived.SevenTiedAt
/-
  For all texts of at most 1500 bytes and all kinds of parts: where a text is such a part, its names, numbers and signs stand at the offsets of their nodes, and else the offset of the error is in the text; for longer texts the law returns true, by the chapter's examples.
  Condition: the six listed package-level variables hold what the program's text lays in them (the card ties this).
-/
namespace Go.Proofs.YtdibcllakkjegaaGreatDoor
open Go Go.Proofs Go.ChangeShapes Go.WideShapes Go.ChangeAt Go.RowKit Go.ChangeMaps

set_option maxRecDepth 100000 in
theorem parserStands_lifted (os : Os) (started : os.Started) (H : Type) (enc : TypeId × Value → H) :
    ReturnsInHanded {} Tryz.checked os 8 .any (fun w args => (Rows.parserStandsSpec.pre enc Tryz.prog Tryz.f8 [] false w args ∧ laidMetH Tryz.prog laidPar w) ∧ sizedMet enc Tryz.prog Tryz.f8 (OpenSpec.ofChange Rows.parserStandsSpec) false w args)
      (Rows.parserStandsSpec.post enc Tryz.prog Tryz.f8 false true false false) := by
  refine shaped_lift (C := Tryz.checked) (X := fun w _ => laidMetH Tryz.prog laidPar w) (fun _ _ _ hh h => h.of_heap hh) lexOwn started (by kernel_rfl) Tryz.func8
    (ChangeSpec.witness_shaped (enc := enc) (C := Tryz.checked) (os := os) (X := fun w _ => laidMetH Tryz.prog laidPar w) false (World.laidAll Tryz.prog os laidPar) #[.string ⟨#[]⟩, .int .u8 0] 8 rfl (World.shaped_of_ZipB (by kernel_rfl) (by kernel_rfl)) (by kernel_rfl) (by kernel_rfl) (by kernel_rfl) (parDoor os _)) ?_
  intro W base args ds gs before hval0 hW hL hsh
  have hval : ∀ (j : Nat) t v, Tryz.f8.params[j]? = some t → args[j]? = some v → Value.okWide Tryz.prog W .any base t v := hval0
  have hW' := hW
  obtain ⟨p, q, hA0, hV, rfl, hfz, hnd⟩ := hW
  have hA : DataW.TrodAll enc Tryz.prog W 0 (fun _ => true) true Tryz.f8.params.toList args.toList ds p := hA0
  rw [Tryz.params8] at hA hval
  obtain ⟨v0, vs0, d0, ds0, p0, q0, hargs, rfl, rfl, h0, r0⟩ := trodAll_cons hA
  obtain ⟨v1, vs1, d1, ds1, p1, q1, rfl, rfl, rfl, h1, r1⟩ := trodAll_cons r0
  obtain ⟨rfl, rfl, rfl⟩ := trodAll_nil r1
  obtain rfl : args = #[v0, v1] := by cases args; simp_all
  obtain ⟨rfl, rfl⟩ := trodVars_none hV
  obtain ⟨s0, rfl, rfl, rfl, z0⟩ := open_string Tryz.underlying9 (hval 0 9 v0 rfl rfl) h0
  obtain ⟨s1, rfl, rfl, rfl, z1⟩ := open_int Tryz.underlying5 (hval 1 5 v1 rfl rfl) h1
  have z1' := (Lit.wf_int_iff .u8 s1).1 z1
  obtain ⟨m1, rfl⟩ : ∃ m : Nat, s1 = (m : Int) := ⟨s1.toNat, by have e : IntKind.u8.min = 0 := rfl; omega⟩
  have l1 : m1 < 256 := by have e : IntKind.u8.max = 255 := rfl; omega
  obtain ⟨htab, hev⟩ := par_of_laid hL
  clear hA0 hval0
  simp only [List.append_nil] at hW'
  refine (lstands_walk9 s0 m1 l1 W ⟨Lib.tabBelow_of_tabIs htab, hev⟩).mono fun e W' ⟨he, hb⟩ => ?_
  subst he
  exact ⟨_, rfl, _, _, _, [], [], [], hW', (trodAll_cons_mk (shut_bool Tryz.underlying4 _) trodAll_mk0), (trodAll_cons_mk (shut_string Tryz.underlying9 z0) (trodAll_cons_mk (shut_int Tryz.underlying5 z1) trodAll_mk0)), rfl, hb.frame _, fun h => by cases h⟩

theorem parserStands_over : Rows.parserStandsRow.holds Tryz.pinned (OpenSpec.ofChange Rows.parserStandsSpec) :=
  OpenClaim.holds_of_wide 8 Tryz.f8 rfl rfl rfl rfl rfl rfl rfl ⟨rfl, rfl, rfl, rfl, rfl⟩ rfl rfl rfl rfl rfl parserStands_named Tryz.func8 parserStands_closed
    parserStands_inst parserStands_wrap (fun os started H enc _ => parserStands_lifted os started H enc)

theorem parserStands_holds : Rows.ParserStandsCardSaid :=
  Claim7.holds_tied_plain_at .later [] [.data, .data, .data, .sentinel, .sentinel, .data] true Rows.parserStandsCard.stood.harness true
    parserStands_over (fun _ h => by cases h) (by as_aux_lemma => kernel_rfl) (fun _ h => by cases h) parserStands_row_tie rfl ⟨rfl, rfl⟩ (by as_aux_lemma => kernel_rfl) rfl
    (fun f fn hf hfn => by
      obtain rfl : f = 8 := Option.some.inj (parserStands_named.symm.trans hf) |>.symm
      obtain rfl : fn = Tryz.f8 := (Option.some.inj (Tryz.func8.symm.trans hfn)).symm
      exact ⟨by as_aux_lemma => kernel_rfl, fun j t ht => by
        rw [Tryz.params8] at ht
        have h3 : t = 9 ∨ t = 5 := by
          rcases j with _ | _ | j
          · left; simpa using ht.symm
          · right; simpa using ht.symm
          · simp at ht
        rcases h3 with rfl | rfl
        · exact (show Tryz.prog.wantsStandIn 9 = false by as_aux_lemma => kernel_rfl)
        · exact (show Tryz.prog.wantsStandIn 5 = false by as_aux_lemma => kernel_rfl)⟩)
    (by as_aux_lemma => kernel_rfl)
#print axioms parserStands_holds
end Go.Proofs.YtdibcllakkjegaaGreatDoor

