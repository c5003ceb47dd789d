import Derived.Test.YtenmmmdnpglkoaaGreatDoorCut21
import Derived.Test.YtenmmmdnpglkoaaGreatDoorPl1
import Derived.Test.YtenmmmdnpglkoaaGreatDoorPlClosedParserLevels
import Derived.Test.YtenmmmdnpglkoaaGreatDoorTie
import Derived.Test.YtenmmmdnpglkoaaGreatDoorCards
import Derived.ChangeSame
import Derived.ChangeMaps5
import Derived.Handed
import Derived.SevenTiedAt
/-
  For all numbers: up to 79 levels of parentheses, of 'not', of signs and of blocks are read by the program's reader as by the reference's, and are too deep exactly above the limit.
  Condition: the six listed package-level variables hold what the program's text lays in them (the card ties this).
-/
namespace Go.Proofs.YtenmmmdnpglkoaaGreatDoor
open Go Go.Proofs Go.ChangeShapes Go.WideShapes Go.ChangeAt Go.RowKit Go.ChangeMaps

set_option maxRecDepth 100000 in
theorem parserLevels_lifted (os : Os) (started : os.Started) (H : Type) (enc : TypeId × Value → H) :
    ReturnsInHanded {} Tryz.checked os 5 .any (fun w args => (Rows.parserLevelsSpec.pre enc Tryz.prog Tryz.f5 [] false w args ∧ laidMetH Tryz.prog jgW w) ∧ sizedMet enc Tryz.prog Tryz.f5 (OpenSpec.ofChange Rows.parserLevelsSpec) false w args)
      (Rows.parserLevelsSpec.post enc Tryz.prog Tryz.f5 false true false false) := by
  refine jlk (C := Tryz.checked) (X := fun w _ => laidMetH Tryz.prog jgW w) (fun _ _ _ hh h => h.of_heap hh) lexOwn started (by kernel_rfl) Tryz.func5
    (ChangeSpec.witness_shaped (enc := enc) (C := Tryz.checked) (os := os) (X := fun w _ => laidMetH Tryz.prog jgW w) false (World.laidAll Tryz.prog os jgW) #[.int .u8 0, .int .u8 0] 8 rfl (World.shaped_of_ZipB (by kernel_rfl) (by kernel_rfl)) (by kernel_rfl) (by kernel_rfl) (by kernel_rfl) (jmF os _)) ?_
  intro W base args ds gs before hval0 hW hL hsh
  have hval : ∀ (j : Nat) t v, Tryz.f5.params[j]? = some t → args[j]? = some v → Value.okWide Tryz.prog W .any base t v := hval0
  have hW' := hW
  obtain ⟨p, q, hA0, hV, rfl, hfz, hnd⟩ := hW
  have hA : DataW.TrodAll enc Tryz.prog W 0 (fun _ => true) true Tryz.f5.params.toList args.toList ds p := hA0
  rw [Tryz.params5] at hA hval
  obtain ⟨v0, vs0, d0, ds0, p0, q0, hargs, rfl, rfl, h0, r0⟩ := trodAll_cons hA
  obtain ⟨v1, vs1, d1, ds1, p1, q1, rfl, rfl, rfl, h1, r1⟩ := trodAll_cons r0
  obtain ⟨rfl, rfl, rfl⟩ := trodAll_nil r1
  obtain rfl : args = #[v0, v1] := by cases args; simp_all
  obtain ⟨rfl, rfl⟩ := trodVars_none hV
  obtain ⟨s0, rfl, rfl, rfl, z0⟩ := open_int Tryz.underlying5 (hval 0 5 v0 rfl rfl) h0
  have z0' := (Lit.wf_int_iff .u8 s0).1 z0
  obtain ⟨m0, rfl⟩ : ∃ m : Nat, s0 = (m : Int) := ⟨s0.toNat, by have e : IntKind.u8.min = 0 := rfl; omega⟩
  have l0 : m0 < 256 := by have e : IntKind.u8.max = 255 := rfl; omega
  obtain ⟨s1, rfl, rfl, rfl, z1⟩ := open_int Tryz.underlying5 (hval 1 5 v1 rfl rfl) h1
  have z1' := (Lit.wf_int_iff .u8 s1).1 z1
  obtain ⟨m1, rfl⟩ : ∃ m : Nat, s1 = (m : Int) := ⟨s1.toNat, by have e : IntKind.u8.min = 0 := rfl; omega⟩
  have l1 : m1 < 256 := by have e : IntKind.u8.max = 255 := rfl; omega
  obtain ⟨htab, hev⟩ := jlj hL
  clear hA0 hval0
  simp only [List.append_nil] at hW'
  refine (llevels_walk m0 m1 l0 l1 W ⟨Lib.tabBelow_of_tabIs htab, hev⟩).mono fun e W' ⟨he, hb⟩ => ?_
  subst he
  exact ⟨_, rfl, _, _, _, [], [], [], hW', (trodAll_cons_mk (shut_bool Tryz.underlying4 _) trodAll_mk0), (trodAll_cons_mk (shut_int Tryz.underlying5 z0) (trodAll_cons_mk (shut_int Tryz.underlying5 z1) trodAll_mk0)), rfl, hb.frame _, fun h => by cases h⟩

theorem parserLevels_over : Rows.parserLevelsRow.holds Tryz.pinned (OpenSpec.ofChange Rows.parserLevelsSpec) :=
  OpenClaim.holds_of_wide 5 Tryz.f5 rfl rfl rfl rfl rfl rfl rfl ⟨rfl, rfl, rfl, rfl, rfl⟩ rfl rfl rfl rfl rfl parserLevels_named Tryz.func5 parserLevels_closed
    parserLevels_inst parserLevels_wrap (fun os started H enc _ => parserLevels_lifted os started H enc)

theorem parserLevels_holds : Rows.ParserLevelsCardSaid :=
  Claim7.holds_tied_plain_at .later [] [.data, .data, .data, .sentinel, .sentinel, .data] true Rows.parserLevelsCard.stood.harness true
    parserLevels_over (fun _ h => by cases h) (by as_aux_lemma => kernel_rfl) (fun _ h => by cases h) parserLevels_row_tie rfl ⟨rfl, rfl⟩ (by as_aux_lemma => kernel_rfl) rfl
    (fun f fn hf hfn => by
      obtain rfl : f = 5 := Option.some.inj (parserLevels_named.symm.trans hf) |>.symm
      obtain rfl : fn = Tryz.f5 := (Option.some.inj (Tryz.func5.symm.trans hfn)).symm
      exact ⟨by as_aux_lemma => kernel_rfl, fun j t ht => by
        rw [Tryz.params5] at ht
        have h3 : t = 5 := by
          rcases j with _ | _ | j
          · simpa using ht.symm
          · simpa using ht.symm
          · simp at ht
        subst h3
        exact (show Tryz.prog.wantsStandIn 5 = false by as_aux_lemma => kernel_rfl)⟩)
    (by as_aux_lemma => kernel_rfl)
#print axioms parserLevels_holds
end Go.Proofs.YtenmmmdnpglkoaaGreatDoor

