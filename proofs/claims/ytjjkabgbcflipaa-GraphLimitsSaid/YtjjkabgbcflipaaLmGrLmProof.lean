import Derived.Test.YtjjkabgbcflipaaRows
import Derived.Test.YtjjkabgbcflipaaCu28
import Derived.Test.YtjjkabgbcflipaaLm2
import Derived.ProofKit
import Derived.DataShut
import Derived.ChangeSame
import Derived.ChangeMaps5
/-
  For all two numbers of 16 bits the law GraphLimits returns true: Check counts points and edges as the reference does, and a long path is found.
-/
set_option linter.unusedSimpArgs false
set_option linter.unusedVariables false
namespace Go.Proofs.Ytjjkabgbcflipaa
open Go Go.Proofs Go.ChangeShapes Go.WideShapes Go.ChangeAt Go.RowKit Go.ChangeMaps
set_option maxRecDepth 100000 in
theorem graphLimits_lifted (os : Os) (started : os.Started) (H : Type) (enc : TypeId × Value → H) :
    ReturnsInHanded {} Try.checked os 4 .any (Rows.graphLimitsSpec.pre6 enc Try.prog Try.f4 Rows.graphLimitsRow.domain false) (Rows.graphLimitsSpec.post enc Try.prog Try.f4 false true false false) := by
  refine returnsInHanded_of_change (C := Try.checked) graph_own started (by kernel_rfl) Try.func4
    (ChangeSpec.witness6 (enc := enc) (C := Try.checked) false ⟨#[], #[.int .u16 0, .int .u16 0], []⟩ 8 (by kernel_rfl) (by kernel_rfl) (by kernel_rfl) (by kernel_rfl)) ?_
  intro W base args ds gs before hval0 hW hcnd _
  have hval : ∀ (j : Nat) t v, Try.f4.params[j]? = some t → args[j]? = some v → Value.okWide Try.prog W .any base t v := hval0
  have hW' := hW
  obtain ⟨p, q, hA0, hV, rfl, hfz, hnd⟩ := hW
  have hA : DataW.TrodAll enc Try.prog W 0 (fun _ => true) true Try.f4.params.toList args.toList ds p := hA0
  rw [Try.params4] at hA hval
  obtain ⟨v0, vs0, d0, ds0, p0, q0, hargs, rfl, rfl, h0, r0⟩ := trodAll_cons hA
  obtain ⟨v1, vs1, d1, ds1, p1, q1, rfl, rfl, rfl, h1, r1⟩ := trodAll_cons r0
  obtain ⟨rfl, rfl, rfl⟩ := trodAll_nil r1
  obtain rfl : args = #[v0, v1] := by cases args; simp_all
  obtain ⟨rfl, rfl⟩ := trodVars_none hV
  obtain ⟨s0, rfl, rfl, rfl, z0⟩ := open_int Try.underlying43 (hval 0 43 v0 rfl rfl) h0
  have z0' := (Lit.wf_int_iff .u16 s0).1 z0
  obtain ⟨m0, rfl⟩ : ∃ m : Nat, s0 = (m : Int) := ⟨s0.toNat, by have e : IntKind.u16.min = 0 := rfl; omega⟩
  have l0 : m0 < 65536 := by have e : IntKind.u16.max = 65535 := rfl; omega
  obtain ⟨s1, rfl, rfl, rfl, z1⟩ := open_int Try.underlying43 (hval 1 43 v1 rfl rfl) h1
  have z1' := (Lit.wf_int_iff .u16 s1).1 z1
  obtain ⟨m1, rfl⟩ : ∃ m : Nat, s1 = (m : Int) := ⟨s1.toNat, by have e : IntKind.u16.min = 0 := rfl; omega⟩
  have l1 : m1 < 65536 := by have e : IntKind.u16.max = 65535 := rfl; omega
  clear hA0 hval0
  refine (limits_walk m0 m1 W l0 l1).mono fun e W' ⟨he, hb⟩ => ?_
  subst he
  exact ⟨_, rfl, _, _, _, [], _, [], hW', (trodAll_cons_mk (shut_bool Try.underlying4 _) trodAll_mk0), (trodAll_cons_mk (shut_int Try.underlying43 z0) (trodAll_cons_mk (shut_int Try.underlying43 z1) trodAll_mk0)), rfl, hb.frame _, fun h => by cases h⟩
theorem graphLimits_holds : Rows.GraphLimitsSaid :=
  OpenClaim.holds_of_wide 4 Try.f4 rfl rfl rfl rfl rfl rfl rfl ⟨rfl, rfl, rfl, rfl, rfl⟩ rfl rfl rfl rfl rfl (by kernel_rfl) Try.func4 (by kernel_rfl)
    (of_decide_eq_true (by kernel_rfl)) (by unfold Func.isWrapper; first | (rw [if_pos (by decide +kernel)]; kernel_rfl) | (rw [if_neg (by decide +kernel)]; exact ⟨rfl, rfl⟩))
    (fun os started H enc _ => graphLimits_lifted os started H enc)
#print axioms graphLimits_holds
end Go.Proofs.Ytjjkabgbcflipaa
