import Derived.Test.YtjobmkdaaionlaaGreatDoorCut14
import Derived.Test.YtjobmkdaaionlaaGreatDoorTu1
import Derived.Test.YtjobmkdaaionlaaGreatDoorTu2
import Derived.Test.YtjobmkdaaionlaaGreatDoorTuClosedUptoLinearTurns
import Derived.Test.YtjobmkdaaionlaaGreatDoorTie
import Derived.Test.YtjobmkdaaionlaaGreatDoorCards
import Derived.ChangeSame
import Derived.ChangeMaps5
import Derived.Handed
import Derived.SevenTiedAt
/-
  For all expressions l, points of any length and shifts the law LinearTurns returns true: renaming variables by a permutation, and back, changes nothing, and the renamed expression has the same value at the renamed point.
  Conditions: what the law reads is of bulk at most 1048576 (the second form); the five listed package-level variables of Go's library hold what the program's text lays in them (the card ties this).
-/
namespace Go.Proofs.YtjobmkdaaionlaaGreatDoor
open Go Go.Proofs Go.ChangeShapes Go.WideShapes Go.ChangeAt Go.RowKit Go.ChangeMaps

set_option maxRecDepth 100000 in
theorem linearTurns_lifted (os : Os) (started : os.Started) (H : Type) (enc : TypeId × Value → H) (F : Stop.Interp) :
    ReturnsInHanded {} Tryz.checked os 11 .any (fun w args => ((Rows.OpenSpec.upto Rows.linearTurnsSpec).pre enc Tryz.prog Tryz.f11 [] false w args ∧ laidMetH Tryz.prog laidAll w) ∧ sizedMet enc Tryz.prog Tryz.f11 (Rows.OpenSpec.upto Rows.linearTurnsSpec) false w args)
      (((Rows.OpenSpec.upto Rows.linearTurnsSpec).at F).post enc Tryz.prog Tryz.f11 false true false false) := by
  refine upto_lift (C := Tryz.checked) (X := fun w => laidMetH Tryz.prog laidAll w) (k := Rows.uptoSmall) rfl (fun _ _ hh h => h.of_heap hh) own started (by kernel_rfl) Tryz.func11
    (World.doorLaid Tryz.prog 62 os) #[.agg #[.slice none 0 0, .string ⟨#[]⟩], .slice none 0 0, .int .u8 0] 8 rfl (World.shaped_of_RefB (by kernel_rfl) (by kernel_rfl)) (by kernel_rfl) (by kernel_rfl) (by kernel_rfl) (door_met os _) ?_
  intro W base args ds gs before hval0 hW hk hL
  have hval : ∀ (j : Nat) t v, Tryz.f11.params[j]? = some t → args[j]? = some v → Value.okWide Tryz.prog W .any base t v := hval0
  have hW' := hW
  obtain ⟨p, q, hA0, hV, rfl, hfz, hnd⟩ := hW
  have hA : DataW.TrodAll enc Tryz.prog W 0 (fun _ => true) true Tryz.f11.params.toList args.toList ds p := hA0
  rw [Tryz.params11] at hA hval
  obtain ⟨v0, vs0, d0, ds0, p0, q0, hargs, rfl, rfl, h0, r0⟩ := trodAll_cons hA
  obtain ⟨v1, vs1, d1, ds1, p1, q1, rfl, rfl, rfl, h1, r1⟩ := trodAll_cons r0
  obtain ⟨v2, vs2, d2, ds2, p2, q2, rfl, rfl, rfl, h2, r2⟩ := trodAll_cons r1
  obtain ⟨rfl, rfl, rfl⟩ := trodAll_nil r2
  obtain rfl : args = #[v0, v1, v2] := by cases args; simp_all
  obtain ⟨rfl, rfl⟩ := trodVars_none hV
  have hbk : Rows.uptoBulkAll ([d0, d1, d2] : List (DataW H)) ≤ 1048576 := of_decide_eq_true (by simpa [Rows.uptoSmall] using hk)
  simp only [bulk_cons, bulk_nil, Nat.add_zero] at hbk
  obtain ⟨ao0, c0, l0, k0, rfl, hr0, hz0, hn0⟩ := open_linear_upto Tryz.underlying27 (by as_aux_lemma => kernel_rfl) (by as_aux_lemma => kernel_rfl) Tryz.underlying25 Tryz.underlying22 (by as_aux_lemma => kernel_rfl) Tryz.underlying22 (hval 0 27 v0 rfl rfl) h0
  have y0 : ∀ s ∈ l0 ++ [k0], s.size ≤ 1200000 := fun s hs => by have := hz0 s hs; omega
  have m0 : l0.length ≤ 1200000 := by omega
  obtain ⟨ao1, c1, l1, rfl, hr1, hz1, hn1⟩ := open_rats_upto Tryz.underlying25 Tryz.underlying22 (by as_aux_lemma => kernel_rfl) (hval 1 25 v1 rfl rfl) h1
  have y1 : ∀ s ∈ l1, s.size ≤ 1200000 := fun s hs => by have := hz1 s hs; omega
  have m1 : l1.length ≤ 1200000 := by omega
  obtain ⟨s2, rfl, rfl, rfl, z2⟩ := open_int Tryz.underlying5 (hval 2 5 v2 rfl rfl) h2
  have hlt0 : ∀ x ∈ p0, x.block < W.heap.size := fun x hx => by simpa using hW'.lt x (by simp [hx])
  have hlt1 : ∀ x ∈ p1, x.block < W.heap.size := fun x hx => by simpa using hW'.lt x (by simp [hx])
  have b2 := u8_bounds z2
  have htab := tab_of_laid hL
  clear hA0 hval0
  refine (lturns_walk l0 k0 ao0 c0 l1 ao1 c1 s2 W hr0 y0 m0 hr1 y1 m1 b2.1 b2.2 htab).mono fun e W' ⟨he, hb⟩ => ?_
  subst he
  exact ⟨_, rfl, _, _, _, [], _, [], hW', (trodAll_cons_mk (shut_bool Tryz.underlying4 _) trodAll_mk0), (trodAll_cons_mk (Below.trod linear_laidOut (by kernel_rfl) (of_decide_eq_true (by kernel_rfl)) h0 hb hlt0) (trodAll_cons_mk (Below.trod linear_laidOut (by kernel_rfl) (of_decide_eq_true (by kernel_rfl)) h1 hb hlt1) (trodAll_cons_mk (shut_int Tryz.underlying5 z2) trodAll_mk0))), rfl, hb.frame _, fun h => by cases h⟩

theorem linearTurns_over : Rows.linearTurnsUptoRow.holds Tryz.pinned (Rows.OpenSpec.upto Rows.linearTurnsSpec) :=
  OpenClaim.holds_of_cond 11 Tryz.f11 rfl rfl rfl rfl rfl rfl rfl ⟨rfl, rfl, rfl, rfl, rfl⟩ rfl rfl rfl rfl rfl linearTurns_named Tryz.func11 linearTurns_closed
    linearTurns_inst linearTurns_wrap (fun os started H enc _ F => linearTurns_lifted os started H enc F)

theorem linearTurns_holds : Rows.LinearTurnsUptoCardSaid :=
  Claim7.holds_tied_plain_at .later [] [.data, .data, .data, .sentinel, .sentinel] true Rows.linearTurnsUptoCard.stood.harness true
    linearTurns_over (fun _ h => by cases h) (by as_aux_lemma => kernel_rfl) (fun _ h => by cases h) linearTurnsUpto_row_tie rfl ⟨rfl, rfl⟩ (by as_aux_lemma => kernel_rfl) rfl
    (fun f fn hf hfn => by
      obtain rfl : f = 11 := Option.some.inj (linearTurns_named.symm.trans hf) |>.symm
      obtain rfl : fn = Tryz.f11 := (Option.some.inj (Tryz.func11.symm.trans hfn)).symm
      exact ⟨by as_aux_lemma => kernel_rfl, fun j t ht => by
        rw [Tryz.params11] at ht
        have h3 : t = 27 ∨ t = 25 ∨ t = 5 := by
          rcases j with _ | _ | _ | j
          · left; simpa using ht.symm
          · right; left; simpa using ht.symm
          · right; right; simpa using ht.symm
          · simp at ht
        rcases h3 with rfl | rfl | rfl
        · exact (show Tryz.prog.wantsStandIn 27 = false by as_aux_lemma => kernel_rfl)
        · exact (show Tryz.prog.wantsStandIn 25 = false by as_aux_lemma => kernel_rfl)
        · exact (show Tryz.prog.wantsStandIn 5 = false by as_aux_lemma => kernel_rfl)⟩)
    (by as_aux_lemma => kernel_rfl)
#print axioms linearTurns_holds
end Go.Proofs.YtjobmkdaaionlaaGreatDoor

