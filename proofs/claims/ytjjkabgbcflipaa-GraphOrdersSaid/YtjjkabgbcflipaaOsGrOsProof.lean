import Derived.Test.YtjjkabgbcflipaaRows
import Derived.Test.YtjjkabgbcflipaaCu28
import Derived.Test.YtjjkabgbcflipaaOs3
import Derived.ProofKit
import Derived.DataShut
import Derived.ChangeSame
import Derived.ChangeMaps5
/-
  For all graphs and points the law GraphOrders returns true: edges between components lead to lower numbers, two points are in one component exactly if each reaches the other, and all numbers are used.
-/
set_option linter.unusedSimpArgs false
set_option linter.unusedVariables false
namespace Go.Proofs.Ytjjkabgbcflipaa
open Go Go.Proofs Go.ChangeShapes Go.WideShapes Go.ChangeAt Go.RowKit Go.ChangeMaps
set_option maxRecDepth 100000 in
theorem graphOrders_lifted (os : Os) (started : os.Started) (H : Type) (enc : TypeId × Value → H) :
    ReturnsInHanded {} Try.checked os 9 .any (Rows.graphOrdersSpec.pre6 enc Try.prog Try.f9 Rows.graphOrdersRow.domain false) (Rows.graphOrdersSpec.post enc Try.prog Try.f9 false true false false) := by
  refine returnsInHanded_of_change (C := Try.checked) graph_own started (by kernel_rfl) Try.func9
    (ChangeSpec.witness6 (enc := enc) (C := Try.checked) false ⟨#[], #[.agg #[.int .i64 0, .int .i64 0, .slice none 0 0], .int .u8 0, .int .u8 0], []⟩ 8 (by kernel_rfl) (by kernel_rfl) (by kernel_rfl) (by kernel_rfl)) ?_
  intro W base args ds gs before hval0 hW hcnd _
  have hval : ∀ (j : Nat) t v, Try.f9.params[j]? = some t → args[j]? = some v → Value.okWide Try.prog W .any base t v := hval0
  have hW' := hW
  obtain ⟨p, q, hA0, hV, rfl, hfz, hnd⟩ := hW
  have hA : DataW.TrodAll enc Try.prog W 0 (fun _ => true) true Try.f9.params.toList args.toList ds p := hA0
  rw [Try.params9] at hA hval
  obtain ⟨v0, vs0, d0, ds0, p0, q0, hargs, rfl, rfl, h0, r0⟩ := trodAll_cons hA
  obtain ⟨v1, vs1, d1, ds1, p1, q1, rfl, rfl, rfl, h1, r1⟩ := trodAll_cons r0
  obtain ⟨v2, vs2, d2, ds2, p2, q2, rfl, rfl, rfl, h2, r2⟩ := trodAll_cons r1
  obtain ⟨rfl, rfl, rfl⟩ := trodAll_nil r2
  obtain rfl : args = #[v0, v1, v2] := by cases args; simp_all
  obtain ⟨rfl, rfl⟩ := trodVars_none hV
  obtain ⟨n0, x0, ao0, c0, E0, rfl, hr0⟩ := open_graph (hval 0 24 v0 rfl rfl) h0
  obtain ⟨s1, rfl, rfl, rfl, z1⟩ := open_int Try.underlying5 (hval 1 5 v1 rfl rfl) h1
  have z1' := (Lit.wf_int_iff .u8 s1).1 z1
  obtain ⟨m1, rfl⟩ : ∃ m : Nat, s1 = (m : Int) := ⟨s1.toNat, by have e : IntKind.u8.min = 0 := rfl; omega⟩
  have l1 : m1 < 256 := by have e : IntKind.u8.max = 255 := rfl; omega
  obtain ⟨s2, rfl, rfl, rfl, z2⟩ := open_int Try.underlying5 (hval 2 5 v2 rfl rfl) h2
  have z2' := (Lit.wf_int_iff .u8 s2).1 z2
  obtain ⟨m2, rfl⟩ : ∃ m : Nat, s2 = (m : Int) := ⟨s2.toNat, by have e : IntKind.u8.min = 0 := rfl; omega⟩
  have l2 : m2 < 256 := by have e : IntKind.u8.max = 255 := rfl; omega
  have hlt0 : ∀ x ∈ p0, x.block < W.heap.size := fun x hx => by simpa using hW'.lt x (by simp [hx])
  clear hA0 hval0
  refine (graphOrders_walk n0 x0 ao0 c0 E0 m1 m2 W hr0 l1 l2).mono fun e W' ⟨he, hb⟩ => ?_
  subst he
  exact ⟨_, rfl, _, _, _, [], _, [], hW', (trodAll_cons_mk (shut_bool Try.underlying4 _) trodAll_mk0), (trodAll_cons_mk (Below.trod graph_laidOut (by kernel_rfl) (of_decide_eq_true (by kernel_rfl)) h0 hb hlt0) (trodAll_cons_mk (shut_int Try.underlying5 z1) (trodAll_cons_mk (shut_int Try.underlying5 z2) trodAll_mk0))), rfl, hb.frame _, fun h => by cases h⟩
theorem graphOrders_holds : Rows.GraphOrdersSaid :=
  OpenClaim.holds_of_wide 9 Try.f9 rfl rfl rfl rfl rfl rfl rfl ⟨rfl, rfl, rfl, rfl, rfl⟩ rfl rfl rfl rfl rfl (by kernel_rfl) Try.func9 (by kernel_rfl)
    (of_decide_eq_true (by kernel_rfl)) (by unfold Func.isWrapper; first | (rw [if_pos (by decide +kernel)]; kernel_rfl) | (rw [if_neg (by decide +kernel)]; exact ⟨rfl, rfl⟩))
    (fun os started H enc _ => graphOrders_lifted os started H enc)
#print axioms graphOrders_holds
end Go.Proofs.Ytjjkabgbcflipaa
