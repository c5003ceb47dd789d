/-
  A region that draws its order: loads may be taken first though late operations write their cells, if these operations wait for the loads.
-/
import Derived.OrdersHeld
import Derived.Deep.RegionHeld3
import Derived.Lib.Hide
set_option linter.unusedSimpArgs false
set_option linter.unusedVariables false
namespace Go.Proofs.YtmnbjkbkjmgmkaaDoor
open Go Go.Proofs Go.RowKit

section
variable {P : Program} {ops : Array Oper} {Q : Exit → Act → World → Prop} {md : Region.Mode} {S : World → Prop} {late dep : Nat → Bool}

/-- Whatever order is picked from here on; behind each operation that is not late S holds. -/
def wpAnyL (P : Program) (md : Region.Mode) (ops : Array Oper) (Q : Exit → Act → World → Prop) (S : World → Prop) (late : Nat → Bool) : Nat → Array Bool → Act → World → Prop
  | 0, listed, a, w => Region.ready md ops listed = [] ∧ Q .normal a w
  | k + 1, listed, a, w =>
    (Region.ready md ops listed = [] → Q .normal a w) ∧
    ∀ i ∈ Region.ready md ops listed, wpOp P ops Q i (fun a' w' => (late i = false → S w') ∧ wpAnyL P md ops Q S late k (listed.setIfInBounds i true) a' w') a w

theorem any_of_late : ∀ (k : Nat) (listed : Array Bool) (a : Act) (w : World), wpAnyL P md ops Q S late k listed a w → wpAny P md ops Q k listed a w
  | 0, _, _, _, h => h
  | k + 1, _, _, _, h => ⟨h.1, fun i hi => wpOp_mono (fun a' w' g => any_of_late k _ a' w' g.2) (h.2 i hi)⟩

theorem late_first {i : Nat} {oi : Oper} {v : Value} (hi : ops[i]? = some oi) (hsel : ∀ (j : Nat) (o : Oper) cs b, ops[j]? = some o → o.op ≠ .select cs b)
    (hQ : ∀ c a w, Q (.panic c) (a.put oi.dst v) w → Q (.panic c) a w)
    (hlate : ∀ (j : Nat) (o : Oper), ops[j]? = some o → late j = true → dep j = true)
    (hdep : ∀ (j : Nat) (o : Oper), ops[j]? = some o → dep j = true → ∃ e ∈ o.after, Region.binds md e = true ∧ (e.on = i ∨ dep e.on = true)) :
    ∀ (k : Nat) (listed : Array Bool) (a : Act) (w : World),
      (∀ j oj, ops[j]? = some oj → j ≠ i → listed.getD j true = false → (∀ e ∈ oj.after, Region.binds md e = true → e.on ≠ i) → oi.apart ops oj = true) → (∀ j, dep j = true → listed.getD j false = false) →
      i ∈ Region.ready md ops listed → YieldsIf P ops S oi v a → S w →
      wpAnyL P md ops Q S late k (listed.setIfInBounds i true) (a.put oi.dst v) w → wpAnyL P md ops Q S late (k + 1) listed a w := by
  intro k
  induction k with
  | zero =>
    intro listed a w _ _ hr hy hS H
    refine ⟨fun h => absurd hr (by rw [h]; simp), fun j hj => ?_⟩
    rcases Decidable.em (j = i) with rfl | hne
    · exact hy.wpOp hi hS ⟨fun _ => hS, H⟩
    · have := ready_mono hj hne
      rw [H.1] at this
      cases this
  | succ k ih =>
    intro listed a w hfree hD hr hy hS H
    refine ⟨fun h => absurd hr (by rw [h]; simp), fun j hj => ?_⟩
    rcases Decidable.em (j = i) with rfl | hne
    · exact hy.wpOp hi hS ⟨fun _ => hS, H⟩
    · have g := H.2 j (ready_mono hj hne)
      obtain ⟨hun, oj, hoj, hall⟩ := mem_ready.1 hj
      have hfar : ∀ e ∈ oj.after, Region.binds md e = true → e.on ≠ i := fun e he hb heq => by
        have u1 := hall e he hb
        have u0 := (mem_ready.1 hr).1
        rw [heq] at u1
        rcases Nat.lt_or_ge i listed.size with q | q
        · simp [q] at u0 u1; rw [u0] at u1; cases u1
        · simp [Array.getElem?_eq_none q] at u1
      have hnd : dep j = false := by
        cases hl : dep j
        · rfl
        · obtain ⟨e, he, hb, hon⟩ := hdep j oj hoj hl
          rcases hon with hon | hon
          · exact absurd hon (hfar e he hb)
          · have h1 := hall e he hb
            rw [hD _ hon] at h1
            cases h1
      have hnl : late j = false := by
        cases hl : late j
        · rfl
        · rw [hlate j oj hoj hl] at hnd
          cases hnd
      have hD2 : ∀ m, dep m = true → (listed.setIfInBounds j true).getD m false = false := fun m hm => by
        rcases Decidable.em (j = m) with rfl | hjm
        · rw [hnd] at hm; cases hm
        · rw [getD_set_ne false hjm]; exact hD m hm
      have g2 := wpOp_putIf hoj (hfree j oj hoj hne hun hfar) (fun cs b => hsel i oi cs b hi) (fun cs b => hsel j oj cs b hoj) hQ hy g
      have hfree2 : ∀ m om, ops[m]? = some om → m ≠ i → (listed.setIfInBounds j true).getD m true = false → (∀ e ∈ om.after, Region.binds md e = true → e.on ≠ i) → oi.apart ops om = true := fun m om hm hmi hu hno => by
        refine hfree m om hm hmi ?_ hno
        rcases Decidable.em (j = m) with rfl | hjm
        · exact hun
        · rw [getD_set_ne true hjm] at hu; exact hu
      refine wpOp_mono (fun a' w' z => ⟨fun _ => z.2.1 hnl, ih (listed.setIfInBounds j true) a' w' hfree2 hD2 (ready_mono hr (Ne.symm hne)) z.1 (z.2.1 hnl) ?_⟩) g2
      rw [Array.setIfInBounds_comm _ _ hne]
      exact z.2.2

/-- The late operations wait for number i, by steps through 'dep', as a Bool; nothing of 'dep' has run. -/
def lateB (md : Region.Mode) (ops : Array Oper) (late dep : Nat → Bool) (listed : Array Bool) (i : Nat) : Bool :=
  ((List.range ops.size).all fun j => (!late j || dep j) && (!dep j || (match ops[j]? with | some o => o.after.any (fun e => Region.binds md e && (e.on == i || dep e.on)) | none => true))) &&
    ((List.range listed.size).all fun j => !dep j || !listed.getD j false)
theorem lateB_spec {i : Nat} {listed : Array Bool} (h : lateB md ops late dep listed i = true) :
    (∀ (j : Nat) (o : Oper), ops[j]? = some o → late j = true → dep j = true) ∧
    (∀ (j : Nat) (o : Oper), ops[j]? = some o → dep j = true → ∃ e ∈ o.after, Region.binds md e = true ∧ (e.on = i ∨ dep e.on = true)) ∧
    (∀ j, dep j = true → listed.getD j false = false) := by
  unfold lateB at h
  rw [Bool.and_eq_true, List.all_eq_true, List.all_eq_true] at h
  obtain ⟨h1, h2⟩ := h
  have lt : ∀ (j : Nat) (o : Oper), ops[j]? = some o → j < ops.size := fun j o hj => by
    rcases Nat.lt_or_ge j ops.size with q | q
    · exact q
    · rw [Array.getElem?_eq_none q] at hj; cases hj
  refine ⟨fun j o hj hl => ?_, fun j o hj hd => ?_, fun j hd => ?_⟩
  · have := h1 j (List.mem_range.2 (lt j o hj))
    rw [hl, Bool.and_eq_true] at this
    simpa using this.1
  · have := h1 j (List.mem_range.2 (lt j o hj))
    rw [hd, Bool.and_eq_true] at this
    have g := this.2
    rw [hj] at g
    simp only [Bool.not_true, Bool.false_or] at g
    obtain ⟨e, he, hb⟩ := Array.any_eq_true'.1 g
    simp only [Bool.and_eq_true, Bool.or_eq_true, beq_iff_eq] at hb
    exact ⟨e, he, hb.1, hb.2⟩
  · rcases Nat.lt_or_ge j listed.size with q | q
    · have := h2 j (List.mem_range.2 q)
      rw [hd] at this
      simpa using this
    · simp [Array.getElem?_eq_none q]

theorem late_take {i : Nat} {oi : Oper} {v : Value} {k : Nat} {listed : Array Bool} {a : Act} {w : World} (dep : Nat → Bool) (hi : ops[i]? = some oi)
    (hs : Region.noSelect ops = true) (hf : Region.free md ops listed i = true) (hr : (Region.ready md ops listed).contains i = true) (hl : lateB md ops late dep listed i = true)
    (hQ : ∀ c a w, Q (.panic c) (a.put oi.dst v) w → Q (.panic c) a w) (hy : YieldsIf P ops S oi v a) (hS : S w)
    (h : wpAnyL P md ops Q S late k (listed.setIfInBounds i true) (a.put oi.dst v) w) : wpAnyL P md ops Q S late (k + 1) listed a w :=
  late_first hi (Region.noSelect_spec hs) hQ (lateB_spec hl).1 (lateB_spec hl).2.1 k listed a w (Region.free_spec hi hf) (lateB_spec hl).2.2 (by simpa using hr) hy hS h

theorem late_one {i : Nat} {oi : Oper} {k : Nat} {listed : Array Bool} {a : Act} {w : World} (hi : ops[i]? = some oi) (hr : Region.ready md ops listed = [i])
    (h : ∀ K : Act → World → Prop, Hid (∀ a' w', (late i = false → S w') → wpAnyL P md ops Q S late k (listed.setIfInBounds i true) a' w' → K a' w') →
      if Region.wanted oi (yielded ops a.tmps) = true then Oper.wp P oi a w K Q else K (a.put oi.dst undef) w) : wpAnyL P md ops Q S late (k + 1) listed a w := by
  have g := h (fun a' w' => (late i = false → S w') ∧ wpAnyL P md ops Q S late k (listed.setIfInBounds i true) a' w') (Lib.hid fun a' w' h1 h2 => ⟨h1, h2⟩)
  refine ⟨fun h0 => (by rw [hr] at h0; cases h0), fun j hj => ?_⟩
  rw [hr] at hj
  obtain rfl := List.mem_singleton.1 hj
  unfold wpOp
  simp only [hi]
  split
  · rename_i hw; rw [if_pos hw] at g; exact .inl g
  · rename_i hw; rw [if_neg hw] at g; exact g

theorem late_done {listed : Array Bool} {a : Act} {w : World} (hr : Region.ready md ops listed = []) (h : Q .normal a w) : ∀ k, wpAnyL P md ops Q S late k listed a w
  | 0 => ⟨hr, h⟩
  | _ + 1 => ⟨fun _ => h, by rw [hr]; simp⟩

theorem wp_region_late {id : Nat} {a : Act} {w : World} (hm : P.follows .mixedOrders = true)
    (h : wpAnyL P .any ops Q S late ops.size (Array.replicate ops.size false) a w.drew) : (Code.region id ops true).wp P Q a w :=
  wp_region_any hm (any_of_late _ _ _ _ h)
end
end Go.Proofs.YtmnbjkbkjmgmkaaDoor
