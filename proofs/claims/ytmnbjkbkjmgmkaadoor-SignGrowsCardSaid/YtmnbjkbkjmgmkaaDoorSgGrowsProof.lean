/-
  For all operations and all triples of sets: greater sets have greater results, and a union of sets has the union of the results; the chapter's examples hold.
  Condition: the listed package-level variables hold what the program's text lays in them (the card ties this).
-/
import Derived.Test.YtmnbjkbkjmgmkaaDoorSgFrame
import Derived.Test.YtmnbjkbkjmgmkaaDoorSgR
import Derived.Test.YtmnbjkbkjmgmkaaDoorSgArr
import Derived.Test.YtmnbjkbkjmgmkaaDoorClosedSignGrows
import Derived.Test.YtmnbjkbkjmgmkaaDoorTie
import Derived.Test.YtmnbjkbkjmgmkaaDoorCards
import Derived.ChangeSame
import Derived.ChangeMaps5
import Derived.Handed
import Derived.SevenTiedAt
set_option linter.unusedSimpArgs false
set_option linter.unusedVariables false
namespace Go.Proofs.YtmnbjkbkjmgmkaaDoor
open Go Go.Proofs Go.ChangeShapes Go.WideShapes Go.ChangeAt Go.RowKit Go.ChangeMaps

set_option maxRecDepth 100000 in
theorem signGrows_lifted (os : Os) (started : os.Started) (H : Type) (enc : TypeId × Value → H) :
    ReturnsInHanded {} Tryd.checked os 7 .any (fun w args => (Rows.signGrowsSpec.pre enc Tryd.prog Tryd.f7 [] false w args ∧ laidMetH Tryd.prog laidSg w) ∧ sizedMet enc Tryd.prog Tryd.f7 (OpenSpec.ofChange Rows.signGrowsSpec) false w args)
      (Rows.signGrowsSpec.post enc Tryd.prog Tryd.f7 false true false false) := by
  refine shaped_lift (C := Tryd.checked) (X := fun w _ => laidMetH Tryd.prog laidSg w) (fun _ _ _ hh h => h.of_heap hh) lexOwn started (by kernel_rfl) Tryd.func7
    (ChangeSpec.witness_shaped (enc := enc) (C := Tryd.checked) (os := os) (X := fun w _ => laidMetH Tryd.prog laidSg w) false (World.laidAll Tryd.prog os laidSg) #[.int .u8 0, .agg #[.int .u8 0, .int .u8 0, .int .u8 0]] 8 rfl (World.shaped_of_ZipB (by kernel_rfl) (by kernel_rfl)) (by kernel_rfl) (by kernel_rfl) (by kernel_rfl) (sgDoor os _)) ?_
  intro W base args ds gs before hval0 hW hL hsh
  have hval : ∀ (j : Nat) t v, Tryd.f7.params[j]? = some t → args[j]? = some v → Value.okWide Tryd.prog W .any base t v := hval0
  have hW' := hW
  obtain ⟨p, q, hA0, hV, rfl, hfz, hnd⟩ := hW
  have hA : DataW.TrodAll enc Tryd.prog W 0 (fun _ => true) true Tryd.f7.params.toList args.toList ds p := hA0
  rw [Tryd.params7] at hA hval
  obtain ⟨v0, vs0, d0, ds0, p0, q0, hargs, rfl, rfl, h0, r0⟩ := trodAll_cons hA
  obtain ⟨v1, vs1, d1, ds1, p1, q1, rfl, rfl, rfl, h1, r1⟩ := trodAll_cons r0
  obtain ⟨rfl, rfl, rfl⟩ := trodAll_nil r1
  obtain rfl : args = #[v0, v1] := by cases args; simp_all
  obtain ⟨rfl, rfl⟩ := trodVars_none hV
  obtain ⟨s0, rfl, rfl, rfl, z0⟩ := open_int Tryd.underlying5 (hval 0 5 v0 rfl rfl) h0
  have z0' := (Lit.wf_int_iff .u8 s0).1 z0
  obtain ⟨m0, rfl⟩ : ∃ m : Nat, s0 = (m : Int) := ⟨s0.toNat, by have e : IntKind.u8.min = 0 := rfl; omega⟩
  have l0 : m0 < 256 := by have e : IntKind.u8.max = 255 := rfl; omega
  obtain ⟨x1, y1, z1, rfl, rfl, rfl, lx1, ly1, lz1⟩ := open_b3 Tryd.underlying54 Tryd.underlying5 (by as_aux_lemma => kernel_rfl) (by as_aux_lemma => kernel_rfl) (hval 1 54 v1 rfl rfl) h1
  have hT := sg_of_laid hL
  clear hA0 hval0
  simp only [List.append_nil] at hW'
  refine (lgrows_walk m0 x1 y1 z1 W l0 lx1 ly1 lz1 hT).mono fun e W' ⟨he, hb⟩ => ?_
  subst he
  exact ⟨_, rfl, _, _, _, [], [], [], hW', (trodAll_cons_mk (shut_bool Tryd.underlying4 _) trodAll_mk0), (trodAll_cons_mk (shut_int Tryd.underlying5 z0) (trodAll_cons_mk (shut_b3 Tryd.underlying54 Tryd.underlying5 (by as_aux_lemma => kernel_rfl) (by as_aux_lemma => kernel_rfl) lx1 ly1 lz1) trodAll_mk0)), rfl, hb.frame _, fun h => by cases h⟩

theorem signGrows_over : Rows.signGrowsRow.holds Tryd.pinned (OpenSpec.ofChange Rows.signGrowsSpec) :=
  OpenClaim.holds_of_wide 7 Tryd.f7 rfl rfl rfl rfl rfl rfl rfl ⟨rfl, rfl, rfl, rfl, rfl⟩ rfl rfl rfl rfl rfl signGrows_named Tryd.func7 signGrows_closed
    signGrows_inst signGrows_wrap (fun os started H enc _ => signGrows_lifted os started H enc)

theorem signGrows_holds : Rows.SignGrowsCardSaid :=
  Claim7.holds_tied_plain_at .later [] [.data, .data, .data] true Rows.signGrowsCard.stood.harness false
    signGrows_over (fun _ h => by cases h) (by as_aux_lemma => kernel_rfl) (fun _ h => by cases h) signGrows_row_tie rfl ⟨rfl, rfl⟩ (by as_aux_lemma => kernel_rfl) rfl
    (fun f fn hf hfn => by
      obtain rfl : f = 7 := Option.some.inj (signGrows_named.symm.trans hf) |>.symm
      obtain rfl : fn = Tryd.f7 := (Option.some.inj (Tryd.func7.symm.trans hfn)).symm
      exact ⟨by as_aux_lemma => kernel_rfl, fun j t ht => by
        rw [Tryd.params7] at ht
        have h3 : t = 5 ∨ t = 54 := by
          rcases j with _ | _ | j
          · left; simpa using ht.symm
          · right; simpa using ht.symm
          · simp at ht
        rcases h3 with rfl | rfl
        · exact (show Tryd.prog.wantsStandIn 5 = false by as_aux_lemma => kernel_rfl)
        · exact (show Tryd.prog.wantsStandIn 54 = false by as_aux_lemma => kernel_rfl)⟩)
    (by as_aux_lemma => kernel_rfl)
#print axioms signGrows_holds
end Go.Proofs.YtmnbjkbkjmgmkaaDoor
