import Derived.Test.YtbadibbdoljjhaaGreatDoorCut14
import Derived.Test.YtbadibbdoljjhaaGreatDoorRr1
import Derived.Test.YtbadibbdoljjhaaGreatDoorRrClosedRationalReturns
import Derived.Test.YtbadibbdoljjhaaGreatDoorTie
import Derived.Test.YtbadibbdoljjhaaGreatDoorCards
import Derived.ChangeSame
import Derived.ChangeMaps5
import Derived.Handed
import Derived.SevenTiedAt
/-
  For all pairs a and b of strings the law RationalReturns returns true: where all four are integers of at most 300 bytes, Of and the returns Num and Den of the quotient agree, errors are returned where a denominator is 0, and equality is that of cross products.
  Condition: the five listed package-level variables of Go's library hold what the program's text lays in them (the card ties this).
-/
namespace Go.Proofs.YtbadibbdoljjhaaGreatDoor
open Go Go.Proofs Go.ChangeShapes Go.WideShapes Go.ChangeAt Go.RowKit Go.ChangeMaps

set_option maxRecDepth 100000 in
theorem rationalReturns_lifted (os : Os) (started : os.Started) (H : Type) (enc : TypeId × Value → H) :
    ReturnsInHanded {} Tryz.checked os 11 .any (fun w args => (Rows.rationalReturnsSpec.pre enc Tryz.prog Tryz.f11 [] false w args ∧ laidMetH Tryz.prog laidAll w) ∧ sizedMet enc Tryz.prog Tryz.f11 (OpenSpec.ofChange Rows.rationalReturnsSpec) false w args)
      (Rows.rationalReturnsSpec.post enc Tryz.prog Tryz.f11 false true false false) := by
  refine returnsInHanded_of_change_and (C := Tryz.checked) (X := fun w _ => laidMetH Tryz.prog laidAll w) (fun _ _ _ hh h => h.of_heap hh) own started (by kernel_rfl) Tryz.func11
    (ChangeSpec.witness_shaped (enc := enc) (C := Tryz.checked) (os := os) (X := fun w _ => laidMetH Tryz.prog laidAll w) false (World.doorLaid Tryz.prog 62 os) #[.agg #[.string ⟨#[]⟩, .string ⟨#[]⟩], .agg #[.string ⟨#[]⟩, .string ⟨#[]⟩]] 8 rfl (World.shaped_of_RefB (by kernel_rfl) (by kernel_rfl)) (by kernel_rfl) (by kernel_rfl) (by kernel_rfl) (door_met os _)) ?_
  intro W base args ds gs before hval0 hW _ _ hL _
  have hval : ∀ (j : Nat) t v, Tryz.f11.params[j]? = some t → args[j]? = some v → Value.okWide Tryz.prog W .any base t v := hval0
  have hW' := hW
  obtain ⟨p, q, hA0, hV, rfl, hfz, hnd⟩ := hW
  have hA : DataW.TrodAll enc Tryz.prog W 0 (fun _ => true) true Tryz.f11.params.toList args.toList ds p := hA0
  rw [Tryz.params11] at hA hval
  obtain ⟨v0, vs0, d0, ds0, p0, q0, hargs, rfl, rfl, h0, r0⟩ := trodAll_cons hA
  obtain ⟨v1, vs1, d1, ds1, p1, q1, rfl, rfl, rfl, h1, r1⟩ := trodAll_cons r0
  obtain ⟨rfl, rfl, rfl⟩ := trodAll_nil r1
  obtain rfl : args = #[v0, v1] := by cases args; simp_all
  obtain ⟨rfl, rfl⟩ := trodVars_none hV
  obtain ⟨s0, u0, rfl, rfl, rfl, z0, zu0⟩ := open_two Tryz.underlying62 Tryz.underlying22 (by as_aux_lemma => kernel_rfl) (by as_aux_lemma => kernel_rfl) (hval 0 62 v0 rfl rfl) h0
  obtain ⟨s1, u1, rfl, rfl, rfl, z1, zu1⟩ := open_two Tryz.underlying62 Tryz.underlying22 (by as_aux_lemma => kernel_rfl) (by as_aux_lemma => kernel_rfl) (hval 1 62 v1 rfl rfl) h1
  have htab := tab_of_laid hL
  clear hA0 hval0
  simp only [List.append_nil] at hW'
  refine (rret_walk s0 u0 s1 u1 W (len_le z0) (len_le zu0) (len_le z1) (len_le zu1) htab).mono fun e W' ⟨he, hb⟩ => ?_
  subst he
  exact ⟨_, rfl, _, _, _, [], [], [], hW', (trodAll_cons_mk (shut_bool Tryz.underlying4 _) trodAll_mk0), (trodAll_cons_mk (shut_two Tryz.underlying62 Tryz.underlying22 (by as_aux_lemma => kernel_rfl) (by as_aux_lemma => kernel_rfl) z0 zu0) (trodAll_cons_mk (shut_two Tryz.underlying62 Tryz.underlying22 (by as_aux_lemma => kernel_rfl) (by as_aux_lemma => kernel_rfl) z1 zu1) trodAll_mk0)), rfl, hb.frame _, fun h => by cases h⟩

theorem rationalReturns_over : Rows.rationalReturnsRow.holds Tryz.pinned (OpenSpec.ofChange Rows.rationalReturnsSpec) :=
  OpenClaim.holds_of_wide 11 Tryz.f11 rfl rfl rfl rfl rfl rfl rfl ⟨rfl, rfl, rfl, rfl, rfl⟩ rfl rfl rfl rfl rfl rationalReturns_named Tryz.func11 rationalReturns_closed
    rationalReturns_inst rationalReturns_wrap (fun os started H enc _ => rationalReturns_lifted os started H enc)

theorem rationalReturns_holds : Rows.RationalReturnsCardSaid :=
  Claim7.holds_tied_plain_at .later [] [.data, .data, .data, .sentinel, .sentinel] true Rows.rationalReturnsCard.stood.harness true
    rationalReturns_over (fun _ h => by cases h) (by as_aux_lemma => kernel_rfl) (fun _ h => by cases h) rationalReturns_row_tie rfl ⟨rfl, rfl⟩ (by as_aux_lemma => kernel_rfl) rfl
    (fun f fn hf hfn => by
      obtain rfl : f = 11 := Option.some.inj (rationalReturns_named.symm.trans hf) |>.symm
      obtain rfl : fn = Tryz.f11 := (Option.some.inj (Tryz.func11.symm.trans hfn)).symm
      exact ⟨by as_aux_lemma => kernel_rfl, fun j t ht => by
        rw [Tryz.params11] at ht
        have h3 : t = 62 := by
          rcases j with _ | _ | j
          · simpa using ht.symm
          · simpa using ht.symm
          · simp at ht
        rcases h3 with rfl
        · exact (show Tryz.prog.wantsStandIn 62 = false by as_aux_lemma => kernel_rfl)⟩)
    (by as_aux_lemma => kernel_rfl)
#print axioms rationalReturns_holds
end Go.Proofs.YtbadibbdoljjhaaGreatDoor

