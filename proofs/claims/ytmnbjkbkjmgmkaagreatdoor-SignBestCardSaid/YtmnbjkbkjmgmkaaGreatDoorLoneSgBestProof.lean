import Derived.Test.YtmnbjkbkjmgmkaaGreatDoorCut14
import Derived.Test.YtmnbjkbkjmgmkaaGreatDoorCut16
import Derived.Test.YtmnbjkbkjmgmkaaGreatDoorCut15
import Derived.Test.YtmnbjkbkjmgmkaaGreatDoorOwnClosedSignBest
import Derived.Test.YtmnbjkbkjmgmkaaGreatDoorTie
import Derived.Test.YtmnbjkbkjmgmkaaGreatDoorCards
import Derived.ChangeSame
import Derived.ChangeMaps5
import Derived.Handed
import Derived.SevenTiedAt
/-
  For all operations and pairs of sets: each sign of a result is that of the result of two integers from -4 to 4; the chapter's examples hold.
  Condition: the listed package-level variables hold what the program's text lays in them (the card ties this).
-/
set_option linter.unusedSimpArgs false
set_option linter.unusedVariables false
namespace Go.Proofs.YtmnbjkbkjmgmkaaGreatDoor
open Go Go.Proofs Go.ChangeShapes Go.WideShapes Go.ChangeAt Go.RowKit Go.ChangeMaps

set_option maxRecDepth 100000 in
theorem signBest_lifted (os : Os) (started : os.Started) (H : Type) (enc : TypeId × Value → H) :
    ReturnsInHanded {} Tryz.checked os 4 .any (fun w args => (Rows.signBestSpec.pre enc Tryz.prog Tryz.f4 [] false w args ∧ laidMetH Tryz.prog laidSg w) ∧ sizedMet enc Tryz.prog Tryz.f4 (OpenSpec.ofChange Rows.signBestSpec) false w args)
      (Rows.signBestSpec.post enc Tryz.prog Tryz.f4 false true false false) := by
  refine shaped_lift (C := Tryz.checked) (X := fun w _ => laidMetH Tryz.prog laidSg w) (fun _ _ _ hh h => h.of_heap hh) lexOwn started (by kernel_rfl) Tryz.func4
    (ChangeSpec.witness_shaped (enc := enc) (C := Tryz.checked) (os := os) (X := fun w _ => laidMetH Tryz.prog laidSg w) false (World.laidAll Tryz.prog os laidSg) #[.int .u8 0, .agg #[.int .u8 0, .int .u8 0]] 8 rfl (World.shaped_of_ZipB (by kernel_rfl) (by kernel_rfl)) (by kernel_rfl) (by kernel_rfl) (by kernel_rfl) (sgDoor os _)) ?_
  intro W base args ds gs before hval0 hW hL hsh
  have hval : ∀ (j : Nat) t v, Tryz.f4.params[j]? = some t → args[j]? = some v → Value.okWide Tryz.prog W .any base t v := hval0
  have hW' := hW
  obtain ⟨p, q, hA0, hV, rfl, hfz, hnd⟩ := hW
  have hA : DataW.TrodAll enc Tryz.prog W 0 (fun _ => true) true Tryz.f4.params.toList args.toList ds p := hA0
  rw [Tryz.params4] at hA hval
  obtain ⟨v0, vs0, d0, ds0, p0, q0, hargs, rfl, rfl, h0, r0⟩ := trodAll_cons hA
  obtain ⟨v1, vs1, d1, ds1, p1, q1, rfl, rfl, rfl, h1, r1⟩ := trodAll_cons r0
  obtain ⟨rfl, rfl, rfl⟩ := trodAll_nil r1
  obtain rfl : args = #[v0, v1] := by cases args; simp_all
  obtain ⟨rfl, rfl⟩ := trodVars_none hV
  obtain ⟨s0, rfl, rfl, rfl, z0⟩ := open_int Tryz.underlying5 (hval 0 5 v0 rfl rfl) h0
  have z0' := (Lit.wf_int_iff .u8 s0).1 z0
  obtain ⟨m0, rfl⟩ : ∃ m : Nat, s0 = (m : Int) := ⟨s0.toNat, by have e : IntKind.u8.min = 0 := rfl; omega⟩
  have l0 : m0 < 256 := by have e : IntKind.u8.max = 255 := rfl; omega
  obtain ⟨x1, y1, rfl, rfl, rfl, lx1, ly1⟩ := open_b2 Tryz.underlying24 Tryz.underlying5 (by as_aux_lemma => kernel_rfl) (by as_aux_lemma => kernel_rfl) (hval 1 24 v1 rfl rfl) h1
  have hT := sg_of_laid hL
  have hP := pow_of_laid hL
  clear hA0 hval0
  simp only [List.append_nil] at hW'
  refine (lbest_walk m0 x1 y1 W l0 lx1 ly1 hT hP).mono fun e W' ⟨he, hb⟩ => ?_
  subst he
  exact ⟨_, rfl, _, _, _, [], [], [], hW', (trodAll_cons_mk (shut_bool Tryz.underlying4 _) trodAll_mk0), (trodAll_cons_mk (shut_int Tryz.underlying5 z0) (trodAll_cons_mk (shut_b2 Tryz.underlying24 Tryz.underlying5 (by as_aux_lemma => kernel_rfl) (by as_aux_lemma => kernel_rfl) lx1 ly1) trodAll_mk0)), rfl, hb.frame _, fun h => by cases h⟩

theorem signBest_over : Rows.signBestRow.holds Tryz.pinned (OpenSpec.ofChange Rows.signBestSpec) :=
  OpenClaim.holds_of_wide 4 Tryz.f4 rfl rfl rfl rfl rfl rfl rfl ⟨rfl, rfl, rfl, rfl, rfl⟩ rfl rfl rfl rfl rfl signBest_named Tryz.func4 signBest_closed
    signBest_inst signBest_wrap (fun os started H enc _ => signBest_lifted os started H enc)

theorem signBest_holds : Rows.SignBestCardSaid :=
  Claim7.holds_tied_plain_at .later [] [.data, .data, .data, .sentinel, .sentinel, .data, .data, .data] true Rows.signBestCard.stood.harness true
    signBest_over (fun _ h => by cases h) (by as_aux_lemma => kernel_rfl) (fun _ h => by cases h) signBest_row_tie rfl ⟨rfl, rfl⟩ (by as_aux_lemma => kernel_rfl) rfl
    (fun f fn hf hfn => by
      obtain rfl : f = 4 := Option.some.inj (signBest_named.symm.trans hf) |>.symm
      obtain rfl : fn = Tryz.f4 := (Option.some.inj (Tryz.func4.symm.trans hfn)).symm
      exact ⟨by as_aux_lemma => kernel_rfl, fun j t ht => by
        rw [Tryz.params4] at ht
        have h3 : t = 5 ∨ t = 24 := by
          rcases j with _ | _ | j
          · left; simpa using ht.symm
          · right; simpa using ht.symm
          · simp at ht
        rcases h3 with rfl | rfl
        · exact (show Tryz.prog.wantsStandIn 5 = false by as_aux_lemma => kernel_rfl)
        · exact (show Tryz.prog.wantsStandIn 24 = false by as_aux_lemma => kernel_rfl)⟩)
    (by as_aux_lemma => kernel_rfl)
#print axioms signBest_holds
end Go.Proofs.YtmnbjkbkjmgmkaaGreatDoor
