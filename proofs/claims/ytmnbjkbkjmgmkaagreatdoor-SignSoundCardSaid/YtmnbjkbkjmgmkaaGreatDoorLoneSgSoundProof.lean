import Derived.Test.YtmnbjkbkjmgmkaaGreatDoorCut14
import Derived.Test.YtmnbjkbkjmgmkaaGreatDoorCut15
import Derived.Test.YtmnbjkbkjmgmkaaGreatDoorOwnClosedSignSound
import Derived.Test.YtmnbjkbkjmgmkaaGreatDoorTie
import Derived.Test.YtmnbjkbkjmgmkaaGreatDoorCards
import Derived.Test.YtmnbjkbkjmgmkaaGreatDoorCut16
import Derived.ChangeSame
import Derived.ChangeMaps5
import Derived.Handed
import Derived.SevenTiedAt
/-
  For all operations, pairs of integers of at most 250 bytes and pairs of sets: the sign of the result is in the result of all sets that hold for the integers; for other strings the law returns true, by the chapter's examples.
  Condition: the listed package-level variables hold what the program's text lays in them (the card ties this).
-/
set_option linter.unusedSimpArgs false
set_option linter.unusedVariables false
namespace Go.Proofs.YtmnbjkbkjmgmkaaGreatDoor
open Go Go.Proofs Go.ChangeShapes Go.WideShapes Go.ChangeAt Go.RowKit Go.ChangeMaps

set_option maxRecDepth 100000 in
theorem signSound_lifted (os : Os) (started : os.Started) (H : Type) (enc : TypeId × Value → H) :
    ReturnsInHanded {} Tryz.checked os 3 .any (fun w args => (Rows.signSoundSpec.pre enc Tryz.prog Tryz.f3 [] false w args ∧ laidMetH Tryz.prog laidSg w) ∧ sizedMet enc Tryz.prog Tryz.f3 (OpenSpec.ofChange Rows.signSoundSpec) false w args)
      (Rows.signSoundSpec.post enc Tryz.prog Tryz.f3 false true false false) := by
  refine shaped_lift (C := Tryz.checked) (X := fun w _ => laidMetH Tryz.prog laidSg w) (fun _ _ _ hh h => h.of_heap hh) lexOwn started (by kernel_rfl) Tryz.func3
    (ChangeSpec.witness_shaped (enc := enc) (C := Tryz.checked) (os := os) (X := fun w _ => laidMetH Tryz.prog laidSg w) false (World.laidAll Tryz.prog os laidSg) #[.int .u8 0, .agg #[.string ⟨#[]⟩, .string ⟨#[]⟩], .agg #[.int .u8 0, .int .u8 0]] 8 rfl (World.shaped_of_ZipB (by kernel_rfl) (by kernel_rfl)) (by kernel_rfl) (by kernel_rfl) (by kernel_rfl) (sgDoor os _)) ?_
  intro W base args ds gs before hval0 hW hL hsh
  have hval : ∀ (j : Nat) t v, Tryz.f3.params[j]? = some t → args[j]? = some v → Value.okWide Tryz.prog W .any base t v := hval0
  have hW' := hW
  obtain ⟨p, q, hA0, hV, rfl, hfz, hnd⟩ := hW
  have hA : DataW.TrodAll enc Tryz.prog W 0 (fun _ => true) true Tryz.f3.params.toList args.toList ds p := hA0
  rw [Tryz.params3] at hA hval
  obtain ⟨v0, vs0, d0, ds0, p0, q0, hargs, rfl, rfl, h0, r0⟩ := trodAll_cons hA
  obtain ⟨v1, vs1, d1, ds1, p1, q1, rfl, rfl, rfl, h1, r1⟩ := trodAll_cons r0
  obtain ⟨v2, vs2, d2, ds2, p2, q2, rfl, rfl, rfl, h2, r2⟩ := trodAll_cons r1
  obtain ⟨rfl, rfl, rfl⟩ := trodAll_nil r2
  obtain rfl : args = #[v0, v1, v2] := by cases args; simp_all
  obtain ⟨rfl, rfl⟩ := trodVars_none hV
  obtain ⟨s0, rfl, rfl, rfl, z0⟩ := open_int Tryz.underlying5 (hval 0 5 v0 rfl rfl) h0
  have z0' := (Lit.wf_int_iff .u8 s0).1 z0
  obtain ⟨m0, rfl⟩ : ∃ m : Nat, s0 = (m : Int) := ⟨s0.toNat, by have e : IntKind.u8.min = 0 := rfl; omega⟩
  have l0 : m0 < 256 := by have e : IntKind.u8.max = 255 := rfl; omega
  obtain ⟨s1, u1, rfl, rfl, rfl, z1, zu1⟩ := open_two Tryz.underlying23 Tryz.underlying9 (by as_aux_lemma => kernel_rfl) (by as_aux_lemma => kernel_rfl) (hval 1 23 v1 rfl rfl) h1
  obtain ⟨x2, y2, rfl, rfl, rfl, lx2, ly2⟩ := open_b2 Tryz.underlying24 Tryz.underlying5 (by as_aux_lemma => kernel_rfl) (by as_aux_lemma => kernel_rfl) (hval 2 24 v2 rfl rfl) h2
  have hT := sg_of_laid hL
  have hP := pow_of_laid hL
  clear hA0 hval0
  simp only [List.append_nil] at hW'
  refine (lsound_walk m0 s1 u1 x2 y2 W l0 (len_le z1) (len_le zu1) lx2 ly2 hT hP).mono fun e W' ⟨he, hb⟩ => ?_
  subst he
  exact ⟨_, rfl, _, _, _, [], [], [], hW', (trodAll_cons_mk (shut_bool Tryz.underlying4 _) trodAll_mk0), (trodAll_cons_mk (shut_int Tryz.underlying5 z0) (trodAll_cons_mk (shut_two Tryz.underlying23 Tryz.underlying9 (by as_aux_lemma => kernel_rfl) (by as_aux_lemma => kernel_rfl) z1 zu1) (trodAll_cons_mk (shut_b2 Tryz.underlying24 Tryz.underlying5 (by as_aux_lemma => kernel_rfl) (by as_aux_lemma => kernel_rfl) lx2 ly2) trodAll_mk0))), rfl, hb.frame _, fun h => by cases h⟩

theorem signSound_over : Rows.signSoundRow.holds Tryz.pinned (OpenSpec.ofChange Rows.signSoundSpec) :=
  OpenClaim.holds_of_wide 3 Tryz.f3 rfl rfl rfl rfl rfl rfl rfl ⟨rfl, rfl, rfl, rfl, rfl⟩ rfl rfl rfl rfl rfl signSound_named Tryz.func3 signSound_closed
    signSound_inst signSound_wrap (fun os started H enc _ => signSound_lifted os started H enc)

theorem signSound_holds : Rows.SignSoundCardSaid :=
  Claim7.holds_tied_plain_at .later [] [.data, .data, .data, .sentinel, .sentinel, .data, .data, .data] true Rows.signSoundCard.stood.harness true
    signSound_over (fun _ h => by cases h) (by as_aux_lemma => kernel_rfl) (fun _ h => by cases h) signSound_row_tie rfl ⟨rfl, rfl⟩ (by as_aux_lemma => kernel_rfl) rfl
    (fun f fn hf hfn => by
      obtain rfl : f = 3 := Option.some.inj (signSound_named.symm.trans hf) |>.symm
      obtain rfl : fn = Tryz.f3 := (Option.some.inj (Tryz.func3.symm.trans hfn)).symm
      exact ⟨by as_aux_lemma => kernel_rfl, fun j t ht => by
        rw [Tryz.params3] at ht
        have h3 : t = 5 ∨ t = 23 ∨ t = 24 := by
          rcases j with _ | _ | _ | j
          · left; simpa using ht.symm
          · right; left; simpa using ht.symm
          · right; right; simpa using ht.symm
          · simp at ht
        rcases h3 with rfl | rfl | rfl
        · exact (show Tryz.prog.wantsStandIn 5 = false by as_aux_lemma => kernel_rfl)
        · exact (show Tryz.prog.wantsStandIn 23 = false by as_aux_lemma => kernel_rfl)
        · exact (show Tryz.prog.wantsStandIn 24 = false by as_aux_lemma => kernel_rfl)⟩)
    (by as_aux_lemma => kernel_rfl)
#print axioms signSound_holds
end Go.Proofs.YtmnbjkbkjmgmkaaGreatDoor
