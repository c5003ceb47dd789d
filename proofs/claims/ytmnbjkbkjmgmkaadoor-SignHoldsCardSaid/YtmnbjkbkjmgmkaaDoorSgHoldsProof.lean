/-
  For all ints and all strings: Check, Of, Holds, Neg and Format of sign return the results, or the errors, of the reference; for strings of more than 250 bytes the law returns true, by the chapter's examples.
  Condition: the listed package-level variables hold what the program's text lays in them (the card ties this).
-/
import Derived.Test.YtmnbjkbkjmgmkaaDoorSgFrame
import Derived.Test.YtmnbjkbkjmgmkaaDoorSgU
import Derived.Test.YtmnbjkbkjmgmkaaDoorSgArr
import Derived.Test.YtmnbjkbkjmgmkaaDoorClosedSignHolds
import Derived.Test.YtmnbjkbkjmgmkaaDoorTie
import Derived.Test.YtmnbjkbkjmgmkaaDoorCards
import Derived.ChangeSame
import Derived.ChangeMaps5
import Derived.Handed
import Derived.SevenTiedAt
set_option linter.unusedSimpArgs false
set_option linter.unusedVariables false
namespace Go.Proofs.YtmnbjkbkjmgmkaaDoor
open Go Go.Proofs Go.ChangeShapes Go.WideShapes Go.ChangeAt Go.RowKit Go.ChangeMaps

set_option maxRecDepth 100000 in
theorem signHolds_lifted (os : Os) (started : os.Started) (H : Type) (enc : TypeId × Value → H) :
    ReturnsInHanded {} Tryd.checked os 3 .any (fun w args => (Rows.signHoldsSpec.pre enc Tryd.prog Tryd.f3 [] false w args ∧ laidMetH Tryd.prog laidSg w) ∧ sizedMet enc Tryd.prog Tryd.f3 (OpenSpec.ofChange Rows.signHoldsSpec) false w args)
      (Rows.signHoldsSpec.post enc Tryd.prog Tryd.f3 false true false false) := by
  refine shaped_lift (C := Tryd.checked) (X := fun w _ => laidMetH Tryd.prog laidSg w) (fun _ _ _ hh h => h.of_heap hh) lexOwn started (by kernel_rfl) Tryd.func3
    (ChangeSpec.witness_shaped (enc := enc) (C := Tryd.checked) (os := os) (X := fun w _ => laidMetH Tryd.prog laidSg w) false (World.laidAll Tryd.prog os laidSg) #[.int .i64 0, .string ⟨#[]⟩] 8 rfl (World.shaped_of_ZipB (by kernel_rfl) (by kernel_rfl)) (by kernel_rfl) (by kernel_rfl) (by kernel_rfl) (sgDoor os _)) ?_
  intro W base args ds gs before hval0 hW hL hsh
  have hval : ∀ (j : Nat) t v, Tryd.f3.params[j]? = some t → args[j]? = some v → Value.okWide Tryd.prog W .any base t v := hval0
  have hW' := hW
  obtain ⟨p, q, hA0, hV, rfl, hfz, hnd⟩ := hW
  have hA : DataW.TrodAll enc Tryd.prog W 0 (fun _ => true) true Tryd.f3.params.toList args.toList ds p := hA0
  rw [Tryd.params3] at hA hval
  obtain ⟨v0, vs0, d0, ds0, p0, q0, hargs, rfl, rfl, h0, r0⟩ := trodAll_cons hA
  obtain ⟨v1, vs1, d1, ds1, p1, q1, rfl, rfl, rfl, h1, r1⟩ := trodAll_cons r0
  obtain ⟨rfl, rfl, rfl⟩ := trodAll_nil r1
  obtain rfl : args = #[v0, v1] := by cases args; simp_all
  obtain ⟨rfl, rfl⟩ := trodVars_none hV
  obtain ⟨s0, rfl, rfl, rfl, z0⟩ := open_int Tryd.underlying3 (hval 0 3 v0 rfl rfl) h0
  obtain ⟨s1, rfl, rfl, rfl, z1⟩ := open_string Tryd.underlying22 (hval 1 22 v1 rfl rfl) h1
  have hT := sg_of_laid hL
  clear hA0 hval0
  simp only [List.append_nil] at hW'
  refine (lholds_walk19 s0 s1 W (len_le z1) hT).mono fun e W' ⟨he, hb⟩ => ?_
  subst he
  exact ⟨_, rfl, _, _, _, [], [], [], hW', (trodAll_cons_mk (shut_bool Tryd.underlying4 _) trodAll_mk0), (trodAll_cons_mk (shut_int Tryd.underlying3 z0) (trodAll_cons_mk (shut_string Tryd.underlying22 z1) trodAll_mk0)), rfl, hb.frame _, fun h => by cases h⟩

theorem signHolds_over : Rows.signHoldsRow.holds Tryd.pinned (OpenSpec.ofChange Rows.signHoldsSpec) :=
  OpenClaim.holds_of_wide 3 Tryd.f3 rfl rfl rfl rfl rfl rfl rfl ⟨rfl, rfl, rfl, rfl, rfl⟩ rfl rfl rfl rfl rfl signHolds_named Tryd.func3 signHolds_closed
    signHolds_inst signHolds_wrap (fun os started H enc _ => signHolds_lifted os started H enc)

theorem signHolds_holds : Rows.SignHoldsCardSaid :=
  Claim7.holds_tied_plain_at .later [] [.data, .data, .data] true Rows.signHoldsCard.stood.harness false
    signHolds_over (fun _ h => by cases h) (by as_aux_lemma => kernel_rfl) (fun _ h => by cases h) signHolds_row_tie rfl ⟨rfl, rfl⟩ (by as_aux_lemma => kernel_rfl) rfl
    (fun f fn hf hfn => by
      obtain rfl : f = 3 := Option.some.inj (signHolds_named.symm.trans hf) |>.symm
      obtain rfl : fn = Tryd.f3 := (Option.some.inj (Tryd.func3.symm.trans hfn)).symm
      exact ⟨by as_aux_lemma => kernel_rfl, fun j t ht => by
        rw [Tryd.params3] at ht
        have h3 : t = 3 ∨ t = 22 := by
          rcases j with _ | _ | j
          · left; simpa using ht.symm
          · right; simpa using ht.symm
          · simp at ht
        rcases h3 with rfl | rfl
        · exact (show Tryd.prog.wantsStandIn 3 = false by as_aux_lemma => kernel_rfl)
        · exact (show Tryd.prog.wantsStandIn 22 = false by as_aux_lemma => kernel_rfl)⟩)
    (by as_aux_lemma => kernel_rfl)
#print axioms signHolds_holds
end Go.Proofs.YtmnbjkbkjmgmkaaDoor
