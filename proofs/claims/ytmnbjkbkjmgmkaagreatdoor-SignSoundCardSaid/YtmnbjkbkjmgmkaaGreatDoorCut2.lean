import Derived.OrdersHeld
import Derived.Deep.RegionHeld3
import Derived.Lib.Hide
import Derived.OrdersIn
import Derived.Deep.RegionHeld
import Derived.CallsIn
import Derived.RangeFuncCalls
import Derived.Test.YtmnbjkbkjmgmkaaGreatDoorCut1
import Derived.Test.YtmnbjkbkjmgmkaaGreatDoorProg
import Derived.KernelRfl
import Derived.WalkKit
import Derived.RangeFuncNested
import Derived.RangeFuncBound
import Derived.RangeFuncLeaves
import Derived.RangeFuncBox
import Derived.Shelf.Abstract
import Derived.Shelf.RegionOpen
import Derived.OwnWalkIn
import Derived.TacticsInMore
import Derived.LoopNIn
import Derived.LoopIn

set_option linter.unusedVariables false
/-
  A region that draws its order: loads may be taken first though late operations write their cells, if these operations wait for the loads.
-/
set_option linter.unusedSimpArgs false
set_option linter.unusedVariables false
namespace Go.Proofs.YtmnbjkbkjmgmkaaGreatDoor
open Go Go.Proofs Go.RowKit
section
variable {P : Program} {ops : Array Oper} {Q : Exit → Act → World → Prop} {md : Region.Mode} {S : World → Prop} {late dep : Nat → Bool}
def wpAnyL (P : Program) (md : Region.Mode) (ops : Array Oper) (Q : Exit → Act → World → Prop) (S : World → Prop) (late : Nat → Bool) : Nat → Array Bool → Act → World → Prop
  | 0, listed, a, w => Region.ready md ops listed = [] ∧ Q .normal a w
  | k + 1, listed, a, w =>
    (Region.ready md ops listed = [] → Q .normal a w) ∧
    ∀ i ∈ Region.ready md ops listed, wpOp P ops Q i (fun a' w' => (late i = false → S w') ∧ wpAnyL P md ops Q S late k (listed.setIfInBounds i true) a' w') a w
theorem any_of_late : ∀ (k : Nat) (listed : Array Bool) (a : Act) (w : World), wpAnyL P md ops Q S late k listed a w → wpAny P md ops Q k listed a w
  | 0, _, _, _, h => h
  | k + 1, _, _, _, h => ⟨h.1, fun i hi => wpOp_mono (fun a' w' g => any_of_late k _ a' w' g.2) (h.2 i hi)⟩
theorem late_first {i : Nat} {oi : Oper} {v : Value} (hi : ops[i]? = some oi) (hsel : ∀ (j : Nat) (o : Oper) cs b, ops[j]? = some o → o.op ≠ .select cs b)
    (hQ : ∀ c a w, Q (.panic c) (a.put oi.dst v) w → Q (.panic c) a w)
    (hlate : ∀ (j : Nat) (o : Oper), ops[j]? = some o → late j = true → dep j = true)
    (hdep : ∀ (j : Nat) (o : Oper), ops[j]? = some o → dep j = true → ∃ e ∈ o.after, Region.binds md e = true ∧ (e.on = i ∨ dep e.on = true)) :
    ∀ (k : Nat) (listed : Array Bool) (a : Act) (w : World),
      (∀ j oj, ops[j]? = some oj → j ≠ i → listed.getD j true = false → (∀ e ∈ oj.after, Region.binds md e = true → e.on ≠ i) → oi.apart ops oj = true) → (∀ j, dep j = true → listed.getD j false = false) →
      i ∈ Region.ready md ops listed → YieldsIf P ops S oi v a → S w →
      wpAnyL P md ops Q S late k (listed.setIfInBounds i true) (a.put oi.dst v) w → wpAnyL P md ops Q S late (k + 1) listed a w := by
  intro k
  induction k with
  | zero =>
    intro listed a w _ _ hr hy hS H
    refine ⟨fun h => absurd hr (by rw [h]; simp), fun j hj => ?_⟩
    rcases Decidable.em (j = i) with rfl | hne
    · exact hy.wpOp hi hS ⟨fun _ => hS, H⟩
    · have := ready_mono hj hne
      rw [H.1] at this
      cases this
  | succ k ih =>
    intro listed a w hfree hD hr hy hS H
    refine ⟨fun h => absurd hr (by rw [h]; simp), fun j hj => ?_⟩
    rcases Decidable.em (j = i) with rfl | hne
    · exact hy.wpOp hi hS ⟨fun _ => hS, H⟩
    · have g := H.2 j (ready_mono hj hne)
      obtain ⟨hun, oj, hoj, hall⟩ := mem_ready.1 hj
      have hfar : ∀ e ∈ oj.after, Region.binds md e = true → e.on ≠ i := fun e he hb heq => by
        have u1 := hall e he hb
        have u0 := (mem_ready.1 hr).1
        rw [heq] at u1
        rcases Nat.lt_or_ge i listed.size with q | q
        · simp [q] at u0 u1; rw [u0] at u1; cases u1
        · simp [Array.getElem?_eq_none q] at u1
      have hnd : dep j = false := by
        cases hl : dep j
        · rfl
        · obtain ⟨e, he, hb, hon⟩ := hdep j oj hoj hl
          rcases hon with hon | hon
          · exact absurd hon (hfar e he hb)
          · have h1 := hall e he hb
            rw [hD _ hon] at h1
            cases h1
      have hnl : late j = false := by
        cases hl : late j
        · rfl
        · rw [hlate j oj hoj hl] at hnd
          cases hnd
      have hD2 : ∀ m, dep m = true → (listed.setIfInBounds j true).getD m false = false := fun m hm => by
        rcases Decidable.em (j = m) with rfl | hjm
        · rw [hnd] at hm; cases hm
        · rw [getD_set_ne false hjm]; exact hD m hm
      have g2 := wpOp_putIf hoj (hfree j oj hoj hne hun hfar) (fun cs b => hsel i oi cs b hi) (fun cs b => hsel j oj cs b hoj) hQ hy g
      have hfree2 : ∀ m om, ops[m]? = some om → m ≠ i → (listed.setIfInBounds j true).getD m true = false → (∀ e ∈ om.after, Region.binds md e = true → e.on ≠ i) → oi.apart ops om = true := fun m om hm hmi hu hno => by
        refine hfree m om hm hmi ?_ hno
        rcases Decidable.em (j = m) with rfl | hjm
        · exact hun
        · rw [getD_set_ne true hjm] at hu; exact hu
      refine wpOp_mono (fun a' w' z => ⟨fun _ => z.2.1 hnl, ih (listed.setIfInBounds j true) a' w' hfree2 hD2 (ready_mono hr (Ne.symm hne)) z.1 (z.2.1 hnl) ?_⟩) g2
      rw [Array.setIfInBounds_comm _ _ hne]
      exact z.2.2
def lateB (md : Region.Mode) (ops : Array Oper) (late dep : Nat → Bool) (listed : Array Bool) (i : Nat) : Bool :=
  ((List.range ops.size).all fun j => (!late j || dep j) && (!dep j || (match ops[j]? with | some o => o.after.any (fun e => Region.binds md e && (e.on == i || dep e.on)) | none => true))) &&
    ((List.range listed.size).all fun j => !dep j || !listed.getD j false)
theorem lateB_spec {i : Nat} {listed : Array Bool} (h : lateB md ops late dep listed i = true) :
    (∀ (j : Nat) (o : Oper), ops[j]? = some o → late j = true → dep j = true) ∧
    (∀ (j : Nat) (o : Oper), ops[j]? = some o → dep j = true → ∃ e ∈ o.after, Region.binds md e = true ∧ (e.on = i ∨ dep e.on = true)) ∧
    (∀ j, dep j = true → listed.getD j false = false) := by
  unfold lateB at h
  rw [Bool.and_eq_true, List.all_eq_true, List.all_eq_true] at h
  obtain ⟨h1, h2⟩ := h
  have lt : ∀ (j : Nat) (o : Oper), ops[j]? = some o → j < ops.size := fun j o hj => by
    rcases Nat.lt_or_ge j ops.size with q | q
    · exact q
    · rw [Array.getElem?_eq_none q] at hj; cases hj
  refine ⟨fun j o hj hl => ?_, fun j o hj hd => ?_, fun j hd => ?_⟩
  · have := h1 j (List.mem_range.2 (lt j o hj))
    rw [hl, Bool.and_eq_true] at this
    simpa using this.1
  · have := h1 j (List.mem_range.2 (lt j o hj))
    rw [hd, Bool.and_eq_true] at this
    have g := this.2
    rw [hj] at g
    simp only [Bool.not_true, Bool.false_or] at g
    obtain ⟨e, he, hb⟩ := Array.any_eq_true'.1 g
    simp only [Bool.and_eq_true, Bool.or_eq_true, beq_iff_eq] at hb
    exact ⟨e, he, hb.1, hb.2⟩
  · rcases Nat.lt_or_ge j listed.size with q | q
    · have := h2 j (List.mem_range.2 q)
      rw [hd] at this
      simpa using this
    · simp [Array.getElem?_eq_none q]
theorem late_take {i : Nat} {oi : Oper} {v : Value} {k : Nat} {listed : Array Bool} {a : Act} {w : World} (dep : Nat → Bool) (hi : ops[i]? = some oi)
    (hs : Region.noSelect ops = true) (hf : Region.free md ops listed i = true) (hr : (Region.ready md ops listed).contains i = true) (hl : lateB md ops late dep listed i = true)
    (hQ : ∀ c a w, Q (.panic c) (a.put oi.dst v) w → Q (.panic c) a w) (hy : YieldsIf P ops S oi v a) (hS : S w)
    (h : wpAnyL P md ops Q S late k (listed.setIfInBounds i true) (a.put oi.dst v) w) : wpAnyL P md ops Q S late (k + 1) listed a w :=
  late_first hi (Region.noSelect_spec hs) hQ (lateB_spec hl).1 (lateB_spec hl).2.1 k listed a w (Region.free_spec hi hf) (lateB_spec hl).2.2 (by simpa using hr) hy hS h
theorem late_one {i : Nat} {oi : Oper} {k : Nat} {listed : Array Bool} {a : Act} {w : World} (hi : ops[i]? = some oi) (hr : Region.ready md ops listed = [i])
    (h : ∀ K : Act → World → Prop, Hid (∀ a' w', (late i = false → S w') → wpAnyL P md ops Q S late k (listed.setIfInBounds i true) a' w' → K a' w') →
      if Region.wanted oi (yielded ops a.tmps) = true then Oper.wp P oi a w K Q else K (a.put oi.dst undef) w) : wpAnyL P md ops Q S late (k + 1) listed a w := by
  have g := h (fun a' w' => (late i = false → S w') ∧ wpAnyL P md ops Q S late k (listed.setIfInBounds i true) a' w') (Lib.hid fun a' w' h1 h2 => ⟨h1, h2⟩)
  refine ⟨fun h0 => (by rw [hr] at h0; cases h0), fun j hj => ?_⟩
  rw [hr] at hj
  obtain rfl := List.mem_singleton.1 hj
  unfold wpOp
  simp only [hi]
  split
  · rename_i hw; rw [if_pos hw] at g; exact .inl g
  · rename_i hw; rw [if_neg hw] at g; exact g
theorem late_done {listed : Array Bool} {a : Act} {w : World} (hr : Region.ready md ops listed = []) (h : Q .normal a w) : ∀ k, wpAnyL P md ops Q S late k listed a w
  | 0 => ⟨hr, h⟩
  | _ + 1 => ⟨fun _ => h, by rw [hr]; simp⟩
theorem wp_region_late {id : Nat} {a : Act} {w : World} (hm : P.follows .mixedOrders = true)
    (h : wpAnyL P .any ops Q S late ops.size (Array.replicate ops.size false) a w.drew) : (Code.region id ops true).wp P Q a w :=
  wp_region_any hm (any_of_late _ _ _ _ h)
end
theorem rowsIn_wide' {n : Nat} {P : Program} {row : String} {args : Array Value} {w : World} {R : Value → World → Prop} (h : Rows P row args w R) : RowsIn Fence.wide n P row args w R := fun c cs _ => by
  obtain ⟨v, w', r, s⟩ := h c cs
  exact ⟨v, w', r, stepsIn_wide.2 s⟩
theorem uponIn_of_upon {l n : Nat} {P : Program} {o : Oper} {a : Act} {K : Act → World → Prop} {Q : Exit → Act → World → Prop} {r : Result Next} (h : o.upon P a K Q r) : o.uponIn (Fence.wide.inRound l) n P a K Q r := by
  cases r with
  | ok x w' =>
    cases x with
    | value v => exact h
    | skip => exact h
    | defer d => exact h
    | enter f args => exact ⟨(fun h => by cases h), CallsIn.inRound l (callsIn_wide.2 h)⟩
    | row row args => exact ⟨(fun h => by cases h), rowsIn_wide' h⟩
    | _ => exact h.elim
  | halt x w' => cases x <;> exact h
theorem anyIn_of_any {l n : Nat} {P : Program} {md : Region.Mode} {ops : Array Oper} {Q : Exit → Act → World → Prop} (hd : ∀ (i : Nat) (o : Oper), ops[i]? = some o → ∀ c, o.op ≠ .defer c) (hQ : ¬ LetsOut Q) :
    ∀ (fuel : Nat) (listed : Array Bool) (a : Act) (w : World), wpAny P md ops Q fuel listed a w → wpAnyIn (Fence.wide.inRound l) n P md ops Q fuel listed a w
  | 0, _, _, _, h => h
  | fuel + 1, listed, a, w, h => ⟨h.1, fun i hi => by
    have h2 := h.2 i hi
    unfold wpOp at h2
    unfold wpOpIn
    cases ho : ops[i]? with
    | none => rw [ho] at h2; exact anyIn_of_any hd hQ fuel _ _ _ h2
    | some o =>
      rw [ho] at h2
      simp only at h2 ⊢
      split
      · next hw =>
        rw [if_pos hw] at h2
        rcases h2 with h2 | ⟨-, h2⟩
        · refine ⟨fun _ _ => trivial, ?_⟩
          rw [Oper.semAt_eq _ _ _ (hd i o ho)]
          refine uponIn_of_upon ?_
          exact Oper.wp_mono (fun a' w' h3 => anyIn_of_any hd hQ fuel _ _ _ h3) h2
        · exact absurd h2 hQ
      · next hw =>
        rw [if_neg hw] at h2
        exact ⟨fun _ _ => trivial, anyIn_of_any hd hQ fuel _ _ _ h2⟩⟩
def isDefer : Op → Bool
  | .defer _ => true
  | _ => false
theorem noDefer {ops : Array Oper} (h : ops.all (fun o => !isDefer o.op) = true) (i : Nat) (o : Oper) (ho : ops[i]? = some o) (c : _) : o.op ≠ .defer c := fun e => by
  obtain ⟨hi, rfl⟩ := Array.getElem?_eq_some_iff.1 ho
  have := (Array.all_eq_true.1 h) i hi
  rw [e] at this
  simp [isDefer] at this
theorem wpIn_region_round {S : World → Prop} {l n id : Nat} {P : Program} {ops : Array Oper} {Q : Exit → Act → World → Prop} {a : Act} {w : World} (hm : P.follows .mixedOrders = true)
    (hd : ops.all (fun o => !isDefer o.op) = true) (hQ : ¬ LetsOut Q) (hS : S w.drew)
    (h : S w.drew → wpAnyH P .any ops Q S ops.size (Array.replicate ops.size false) a w.drew) : (Code.region id ops true).wpIn (Fence.wide.inRound l) n P Q a w :=
  wpIn_region_any hm (anyIn_of_any (noDefer hd) hQ _ _ _ _ (wpAny_of_held _ _ _ _ (h hS)))
section
variable {P : Program} {ops : Array Oper} {Q : Exit → Act → World → Prop} {md : Region.Mode} {S : World → Prop} {hot : Nat → Bool}
def calmB (hot : Nat → Bool) (listed : Array Bool) : Bool := (List.range listed.size).all fun j => !hot j || !listed.getD j false
theorem calmB_spec {listed : Array Bool} (h : calmB hot listed = true) (j : Nat) (hj : hot j = true) : listed.getD j false = false := by
  unfold calmB at h
  rw [List.all_eq_true] at h
  rcases Nat.lt_or_ge j listed.size with q | q
  · have := h j (List.mem_range.2 q)
    rw [hj] at this
    simpa using this
  · simp [Array.getElem?_eq_none q]
theorem calmB_of {listed : Array Bool} (h : ∀ j, hot j = true → listed.getD j false = false) : calmB hot listed = true := by
  unfold calmB
  rw [List.all_eq_true]
  intro j _
  cases hj : hot j
  · rfl
  · rw [h j hj]; rfl
theorem calmB_drop {listed : Array Bool} {i : Nat} (h : calmB hot (listed.setIfInBounds i true) = true) : calmB hot listed = true := calmB_of fun j hj => by
  have := calmB_spec h j hj
  rcases Decidable.em (i = j) with rfl | hne
  · rcases Nat.lt_or_ge i listed.size with q | q
    · simp [q] at this
    · simp [Array.getElem?_eq_none q]
  · rwa [getD_set_ne false hne] at this
theorem calmB_set {listed : Array Bool} {i : Nat} (hi : hot i = false) (h : calmB hot listed = true) : calmB hot (listed.setIfInBounds i true) = true := calmB_of fun j hj => by
  have hne : i ≠ j := fun e => by subst e; rw [hi] at hj; cases hj
  rw [getD_set_ne false hne]; exact calmB_spec h j hj
def wpAnyM (P : Program) (md : Region.Mode) (ops : Array Oper) (Q : Exit → Act → World → Prop) (S : World → Prop) (hot : Nat → Bool) : Nat → Array Bool → Act → World → Prop
  | 0, listed, a, w => Region.ready md ops listed = [] ∧ Q .normal a w
  | k + 1, listed, a, w =>
    (Region.ready md ops listed = [] → Q .normal a w) ∧
    ∀ i ∈ Region.ready md ops listed, wpOp P ops Q i (fun a' w' => (calmB hot (listed.setIfInBounds i true) = true → S w') ∧ wpAnyM P md ops Q S hot k (listed.setIfInBounds i true) a' w') a w
theorem any_of_hot : ∀ (k : Nat) (listed : Array Bool) (a : Act) (w : World), wpAnyM P md ops Q S hot k listed a w → wpAny P md ops Q k listed a w
  | 0, _, _, _, h => h
  | k + 1, _, _, _, h => ⟨h.1, fun i hi => wpOp_mono (fun a' w' g => any_of_hot k _ a' w' g.2) (h.2 i hi)⟩
theorem hot_first {i : Nat} {oi : Oper} {v : Value} (hi : ops[i]? = some oi) (hsel : ∀ (j : Nat) (o : Oper) cs b, ops[j]? = some o → o.op ≠ .select cs b) (hni : hot i = false)
    (hQ : ∀ c a w, Q (.panic c) (a.put oi.dst v) w → Q (.panic c) a w)
    (free : Bool)
    (hfr : free = false → ∀ (j : Nat) (o : Oper), ops[j]? = some o → hot j = true → ∃ e ∈ o.after, Region.binds md e = true ∧ e.on = i) :
    ∀ (k : Nat) (listed : Array Bool) (a : Act) (w : World),
      (∀ j oj, ops[j]? = some oj → j ≠ i → listed.getD j true = false → (∀ e ∈ oj.after, Region.binds md e = true → e.on ≠ i) → oi.apart ops oj = true) →
      i ∈ Region.ready md ops listed → YieldsIf P ops (if free = true then fun _ => True else S) oi v a → (calmB hot listed = true → S w) → (free = false → calmB hot listed = true) →
      wpAnyM P md ops Q S hot k (listed.setIfInBounds i true) (a.put oi.dst v) w → wpAnyM P md ops Q S hot (k + 1) listed a w := by
  intro k
  induction k with
  | zero =>
    intro listed a w _ hr hy hS hc H
    refine ⟨fun h => absurd hr (by rw [h]; simp), fun j hj => ?_⟩
    rcases Decidable.em (j = i) with rfl | hne
    · exact hy.wpOp hi (by cases free with | true => trivial | false => exact hS (hc rfl)) ⟨fun h => hS (calmB_drop h), H⟩
    · have := ready_mono hj hne
      rw [H.1] at this
      cases this
  | succ k ih =>
    intro listed a w hfree hr hy hS hc H
    refine ⟨fun h => absurd hr (by rw [h]; simp), fun j hj => ?_⟩
    rcases Decidable.em (j = i) with rfl | hne
    · exact hy.wpOp hi (by cases free with | true => trivial | false => exact hS (hc rfl)) ⟨fun h => hS (calmB_drop h), H⟩
    · have g := H.2 j (ready_mono hj hne)
      obtain ⟨hun, oj, hoj, hall⟩ := mem_ready.1 hj
      have hfar : ∀ e ∈ oj.after, Region.binds md e = true → e.on ≠ i := fun e he hb heq => by
        have u1 := hall e he hb
        have u0 := (mem_ready.1 hr).1
        rw [heq] at u1
        rcases Nat.lt_or_ge i listed.size with q | q
        · simp [q] at u0 u1; rw [u0] at u1; cases u1
        · simp [Array.getElem?_eq_none q] at u1
      have g2 := wpOp_putIf hoj (hfree j oj hoj hne hun hfar) (fun cs b => hsel i oi cs b hi) (fun cs b => hsel j oj cs b hoj) hQ hy g
      have hfree2 : ∀ m om, ops[m]? = some om → m ≠ i → (listed.setIfInBounds j true).getD m true = false → (∀ e ∈ om.after, Region.binds md e = true → e.on ≠ i) → oi.apart ops om = true := fun m om hm hmi hu hno => by
        refine hfree m om hm hmi ?_ hno
        rcases Decidable.em (j = m) with rfl | hjm
        · exact hun
        · rw [getD_set_ne true hjm] at hu; exact hu
      have hcj : free = false → calmB hot (listed.setIfInBounds j true) = true := fun hf => by
        have hnh : hot j = false := by
          cases hh : hot j
          · rfl
          · obtain ⟨e, he, hb, hon⟩ := hfr hf j oj hoj hh
            exact absurd hon (hfar e he hb)
        exact calmB_set hnh (hc hf)
      refine wpOp_mono (fun a' w' z => ⟨fun h => z.2.1 ?_, ih (listed.setIfInBounds j true) a' w' hfree2 (ready_mono hr (Ne.symm hne)) z.1 (fun h => z.2.1 ?_) hcj ?_⟩) g2
      all_goals first
        | (rw [Array.setIfInBounds_comm _ _ hne]; exact z.2.2)
        | (rw [Array.setIfInBounds_comm _ _ hne]; exact calmB_set hni h)
        | (rw [Array.setIfInBounds_comm _ _ (Ne.symm hne)]; exact calmB_set hni h)
def waitB (md : Region.Mode) (ops : Array Oper) (hot : Nat → Bool) (i : Nat) : Bool :=
  (List.range ops.size).all fun j => !hot j || (match ops[j]? with | some o => o.after.any (fun e => Region.binds md e && e.on == i) | none => true)
theorem waitB_spec {i : Nat} (h : waitB md ops hot i = true) (j : Nat) (o : Oper) (hj : ops[j]? = some o) (hh : hot j = true) : ∃ e ∈ o.after, Region.binds md e = true ∧ e.on = i := by
  unfold waitB at h
  rw [List.all_eq_true] at h
  have lt : j < ops.size := by
    rcases Nat.lt_or_ge j ops.size with q | q
    · exact q
    · rw [Array.getElem?_eq_none q] at hj; cases hj
  have := h j (List.mem_range.2 lt)
  rw [hh, hj] at this
  simp only [Bool.not_true, Bool.false_or] at this
  obtain ⟨e, he, hb⟩ := Array.any_eq_true'.1 this
  simp only [Bool.and_eq_true, beq_iff_eq] at hb
  exact ⟨e, he, hb.1, hb.2⟩
theorem hot_take {i : Nat} {oi : Oper} {v : Value} {k : Nat} {listed : Array Bool} {a : Act} {w : World} (hi : ops[i]? = some oi)
    (hs : Region.noSelect ops = true) (hf : Region.free md ops listed i = true) (hr : (Region.ready md ops listed).contains i = true) (hni : hot i = false) (hwt : waitB md ops hot i = true) (hcl : calmB hot listed = true)
    (hQ : ∀ c a w, Q (.panic c) (a.put oi.dst v) w → Q (.panic c) a w) (hy : YieldsIf P ops S oi v a) (hS : S w)
    (h : wpAnyM P md ops Q S hot k (listed.setIfInBounds i true) (a.put oi.dst v) w) : wpAnyM P md ops Q S hot (k + 1) listed a w :=
  hot_first hi (Region.noSelect_spec hs) hni hQ false (fun _ => waitB_spec hwt) k listed a w (Region.free_spec hi hf) (by simpa using hr) (by simpa using hy) (fun _ => hS) (fun _ => hcl) h
theorem hot_takeW {i : Nat} {oi : Oper} {v : Value} {k : Nat} {listed : Array Bool} {a : Act} {w : World} (hi : ops[i]? = some oi)
    (hs : Region.noSelect ops = true) (hf : Region.free md ops listed i = true) (hr : (Region.ready md ops listed).contains i = true) (hni : hot i = false)
    (hQ : ∀ c a w, Q (.panic c) (a.put oi.dst v) w → Q (.panic c) a w) (hy : YieldsIf P ops (fun _ => True) oi v a) (hS : S w)
    (h : wpAnyM P md ops Q S hot k (listed.setIfInBounds i true) (a.put oi.dst v) w) : wpAnyM P md ops Q S hot (k + 1) listed a w :=
  hot_first hi (Region.noSelect_spec hs) hni hQ true (fun h => by cases h) k listed a w (Region.free_spec hi hf) (by simpa using hr) (by simpa using hy) (fun _ => hS) (fun h => by cases h) h
theorem hot_one {i : Nat} {oi : Oper} {k : Nat} {listed : Array Bool} {a : Act} {w : World} (hi : ops[i]? = some oi) (hr : Region.ready md ops listed = [i])
    (h : ∀ K : Act → World → Prop, Hid (∀ a' w', (calmB hot (listed.setIfInBounds i true) = true → S w') → wpAnyM P md ops Q S hot k (listed.setIfInBounds i true) a' w' → K a' w') →
      if Region.wanted oi (yielded ops a.tmps) = true then Oper.wp P oi a w K Q else K (a.put oi.dst undef) w) : wpAnyM P md ops Q S hot (k + 1) listed a w := by
  have g := h (fun a' w' => (calmB hot (listed.setIfInBounds i true) = true → S w') ∧ wpAnyM P md ops Q S hot k (listed.setIfInBounds i true) a' w') (Lib.hid fun a' w' h1 h2 => ⟨h1, h2⟩)
  refine ⟨fun h0 => (by rw [hr] at h0; cases h0), fun j hj => ?_⟩
  rw [hr] at hj
  obtain rfl := List.mem_singleton.1 hj
  unfold wpOp
  simp only [hi]
  split
  · rename_i hw; rw [if_pos hw] at g; exact .inl g
  · rename_i hw; rw [if_neg hw] at g; exact g
theorem hot_done {listed : Array Bool} {a : Act} {w : World} (hr : Region.ready md ops listed = []) (h : Q .normal a w) : ∀ k, wpAnyM P md ops Q S hot k listed a w
  | 0 => ⟨hr, h⟩
  | _ + 1 => ⟨fun _ => h, by rw [hr]; simp⟩
theorem wp_region_hot {id : Nat} {a : Act} {w : World} (hot : Nat → Bool) (S : World → Prop) (hm : P.follows .mixedOrders = true) (hS : S w.drew)
    (h : S w.drew → wpAnyM P .any ops Q S hot ops.size (Array.replicate ops.size false) a w.drew) : (Code.region id ops true).wp P Q a w :=
  wp_region_any hm (any_of_hot _ _ _ _ (h hS))
theorem wpIn_region_hot {l n id : Nat} {a : Act} {w : World} (hot : Nat → Bool) (S : World → Prop) (hm : P.follows .mixedOrders = true)
    (hd : ops.all (fun o => !isDefer o.op) = true) (hQ : ¬ LetsOut Q) (hS : S w.drew)
    (h : S w.drew → wpAnyM P .any ops Q S hot ops.size (Array.replicate ops.size false) a w.drew) : (Code.region id ops true).wpIn (Fence.wide.inRound l) n P Q a w :=
  wpIn_region_any hm (anyIn_of_any (noDefer hd) hQ _ _ _ _ (any_of_hot _ _ _ _ (h hS)))
end
section
variable {P : Program} {ops : Array Oper} {Q : Exit → Act → World → Prop} {md : Region.Mode}
def unl (ops : Array Oper) (listed : Array Bool) : Nat := ((List.range ops.size).filter fun i => !listed.getD i true).length
theorem unl_set {listed : Array Bool} {i : Nat} (hi : i < ops.size) (h : listed.getD i true = false) : unl ops (listed.setIfInBounds i true) + 1 ≤ unl ops listed := by
  have hl : i < listed.size := by
    rcases Nat.lt_or_ge i listed.size with q | q
    · exact q
    · simp [Array.getElem?_eq_none q] at h
  unfold unl
  generalize ops.size = n at hi ⊢
  induction n with
  | zero => omega
  | succ n ih =>
    rw [List.range_succ, List.filter_append, List.filter_append, List.length_append, List.length_append]
    by_cases e : i = n
    · subst e
      have h1 : ((List.range i).filter fun j => !(listed.setIfInBounds i true).getD j true).length ≤ ((List.range i).filter fun j => !listed.getD j true).length := by
        rw [← List.countP_eq_length_filter, ← List.countP_eq_length_filter]
        refine List.countP_mono_left fun x hx hh => ?_
        have hne : i ≠ x := by have := List.mem_range.1 hx; omega
        rwa [getD_set_ne true hne] at hh
      have h2 : ([i].filter fun j => !(listed.setIfInBounds i true).getD j true) = [] := by simp [hl]
      have h3 : ([i].filter fun j => !listed.getD j true) = [i] := by simp only [List.filter_cons, List.filter_nil, h]; rfl
      rw [h2, h3]; simp only [List.length_nil, List.length_singleton]; omega
    · have := ih (by omega)
      have h2 : ([n].filter fun j => !(listed.setIfInBounds i true).getD j true) = ([n].filter fun j => !listed.getD j true) := by
        simp only [List.filter_cons, List.filter_nil, getD_set_ne true e]
      rw [h2]; omega
def backB (md : Region.Mode) (ops : Array Oper) : Bool := (List.range ops.size).all fun i => (ops[i]?.map fun o => o.after.all fun e => !Region.binds md e || decide (e.on < i)).getD true
theorem all_listed (hb : backB md ops = true) {listed : Array Bool} (hr : Region.ready md ops listed = []) (hs : listed.size = ops.size) : ∀ i, i < ops.size → listed.getD i false = true := by
  intro i
  induction i using Nat.strongRecOn with
  | ind i ih =>
    intro hi
    cases h : listed.getD i true with
    | true => simpa [hs, hi] using h
    | false =>
      exfalso
      have : i ∈ Region.ready md ops listed := by
        refine mem_ready.2 ⟨h, ops[i], Array.getElem?_eq_getElem hi, fun e he hbind => ?_⟩
        unfold backB at hb
        rw [List.all_eq_true] at hb
        have h1 := hb i (List.mem_range.2 hi)
        rw [Array.getElem?_eq_getElem hi] at h1
        simp only [Option.map_some, Option.getD_some] at h1
        have h2 := Array.all_eq_true_iff_forall_mem.1 h1 e he
        rw [hbind] at h2
        have h3 : e.on < i := by simpa using h2
        exact ih _ h3 (by omega)
      rw [hr] at this; cases this
theorem wpAny_inv (hb : backB md ops = true) (I : Array Bool → Act → World → Prop)
    (hstep : ∀ listed a w i o, I listed a w → listed.size = ops.size → ops[i]? = some o → listed.getD i true = false → (∀ e ∈ o.after, Region.binds md e = true → listed.getD e.on false = true) →
      if Region.wanted o (yielded ops a.tmps) then o.wp P a w (I (listed.setIfInBounds i true)) Q else I (listed.setIfInBounds i true) (a.put o.dst undef) w)
    (hend : ∀ listed a w, I listed a w → (∀ i, i < ops.size → listed.getD i false = true) → Q .normal a w) :
    ∀ (k : Nat) (listed : Array Bool) (a : Act) (w : World), listed.size = ops.size → unl ops listed ≤ k → I listed a w → wpAny P md ops Q k listed a w := by
  intro k
  induction k with
  | zero =>
    intro listed a w hs hk h
    have hr : Region.ready md ops listed = [] := by
      rw [List.eq_nil_iff_forall_not_mem]
      intro i hi
      obtain ⟨h1, o, ho, -⟩ := mem_ready.1 hi
      have := unl_set (ops := ops) (Array.getElem?_eq_some_iff.1 ho).1 h1
      omega
    exact ⟨hr, hend listed a w h (all_listed hb hr hs)⟩
  | succ k ih =>
    intro listed a w hs hk h
    refine ⟨fun hr => hend listed a w h (all_listed hb hr hs), fun i hi => ?_⟩
    obtain ⟨h1, o, ho, h2⟩ := mem_ready.1 hi
    have hn := unl_set (ops := ops) (Array.getElem?_eq_some_iff.1 ho).1 h1
    have g := hstep listed a w i o h hs ho h1 h2
    unfold wpOp
    simp only [ho]
    have hsz : (listed.setIfInBounds i true).size = ops.size := by rw [Array.size_setIfInBounds]; exact hs
    split
    · rename_i hw
      rw [if_pos hw] at g
      exact .inl (Oper.wp_mono (fun a' w' g' => ih _ a' w' hsz (by omega) g') g)
    · rename_i hw
      rw [if_neg hw] at g
      exact ih _ _ _ hsz (by omega) g
theorem wp_region_inv {id : Nat} {a : Act} {w : World} (hm : P.follows .mixedOrders = true) (hb : backB .any ops = true) (I : Array Bool → Act → World → Prop)
    (h0 : I (Array.replicate ops.size false) a w.drew)
    (hstep : ∀ listed a w i o, I listed a w → listed.size = ops.size → ops[i]? = some o → listed.getD i true = false → (∀ e ∈ o.after, Region.binds .any e = true → listed.getD e.on false = true) →
      if Region.wanted o (yielded ops a.tmps) then o.wp P a w (I (listed.setIfInBounds i true)) Q else I (listed.setIfInBounds i true) (a.put o.dst undef) w)
    (hend : ∀ listed a w, I listed a w → (∀ i, i < ops.size → listed.getD i false = true) → Q .normal a w) : (Code.region id ops true).wp P Q a w :=
  wp_region_any hm (wpAny_inv hb I hstep hend _ _ _ _ (by simp) (by unfold unl; exact Nat.le_trans (List.length_filter_le _ _) (by simp)) h0)
end
def plc (s : Nat) : List Nat := (List.range 3).filter fun k => s / 2 ^ k % 2 == 1
def resTab : List Nat := [1, 1, 7, 1, 2, 4, 7, 4, 4, 7, 1, 1, 4, 2, 1, 4, 4, 7, 4, 2, 1, 2, 2, 2, 1, 2, 4, 6, 0, 1, 2, 0, 2, 1, 0, 6, 3, 0, 6, 2, 0, 2, 3, 0, 6]
def rowS (op a b : Nat) : Nat := resTab.getD (op * 9 + a * 3 + b) 0
def cmbRow (op a acc : Nat) (bs : List Nat) : Nat := bs.foldl (fun r b => r ||| rowS op a b) acc
def cmbL (op : Nat) (xs bs : List Nat) : Nat := xs.foldl (fun r a => cmbRow op a r bs) 0
def cmb (op s t : Nat) : Nat := cmbL op (plc s) (plc t)
theorem cmbRow_snoc (op a acc : Nat) (bs : List Nat) (b : Nat) : cmbRow op a acc (bs ++ [b]) = cmbRow op a acc bs ||| rowS op a b := by simp [cmbRow]
theorem cmbL_snoc (op : Nat) (xs bs : List Nat) (a : Nat) : cmbL op (xs ++ [a]) bs = cmbRow op a (cmbL op xs bs) bs := by simp [cmbL]
def parTab : List Nat := [1, 2, 4, 7, 5, 7, 7, 4, 4, 7, 6, 4]
def parS (op a : Nat) : Nat := parTab.getD (op * 3 + a) 0
def rfnStep (op t : Nat) (p : Nat × Nat) (a : Nat) : Nat × Nat := if parS op a &&& t = 0 then p else (p.1 ||| 2 ^ a, p.2 ||| (parS op a &&& t))
def rfnL (op t : Nat) (xs : List Nat) : Nat × Nat := xs.foldl (rfnStep op t) (0, 0)
def rfn (op s t : Nat) : Nat × Nat := rfnL op t (plc s)
theorem rfnL_snoc (op t : Nat) (xs : List Nat) (a : Nat) : rfnL op t (xs ++ [a]) = rfnStep op t (rfnL op t xs) a := by simp [rfnL]
theorem bits_and8 : ∀ x y : Fin 8, bits .and .i64 (x.val : Int) (y.val : Int) = ((x.val &&& y.val : Nat) : Int) := by decide +kernel
theorem bits_or8 : ∀ x y : Fin 8, bits .or .i64 (x.val : Int) (y.val : Int) = ((x.val ||| y.val : Nat) : Int) := by decide +kernel
theorem bits_andNot8 : ∀ x y : Fin 8, bits .andNot .i64 (x.val : Int) (y.val : Int) = ((x.val - (x.val &&& y.val) : Nat) : Int) := by decide +kernel
theorem bAnd {x y : Nat} (hx : x < 8) (hy : y < 8) : bits .and .i64 (x : Int) (y : Int) = ((x &&& y : Nat) : Int) := bits_and8 ⟨x, hx⟩ ⟨y, hy⟩
theorem bOr {x y : Nat} (hx : x < 8) (hy : y < 8) : bits .or .i64 (x : Int) (y : Int) = ((x ||| y : Nat) : Int) := bits_or8 ⟨x, hx⟩ ⟨y, hy⟩
theorem bAndNot {x y : Nat} (hx : x < 8) (hy : y < 8) : bits .andNot .i64 (x : Int) (y : Int) = ((x - (x &&& y) : Nat) : Int) := bits_andNot8 ⟨x, hx⟩ ⟨y, hy⟩
theorem and_lt8 {x y : Nat} (hx : x < 8) : x &&& y < 8 := Nat.lt_of_le_of_lt Nat.and_le_left hx
theorem or_lt8 {x y : Nat} (hx : x < 8) (hy : y < 8) : x ||| y < 8 := Nat.or_lt_two_pow (n := 3) hx hy
theorem rowS_lt (op a b : Nat) : rowS op a b < 8 := by
  have h : ∀ x ∈ resTab, x < 8 := by decide
  unfold rowS
  rcases Nat.lt_or_ge (op * 9 + a * 3 + b) resTab.length with q | q
  · rw [List.getD_eq_getElem?_getD, List.getElem?_eq_getElem q]; exact h _ (List.getElem_mem q)
  · rw [List.getD_eq_getElem?_getD, List.getElem?_eq_none q]; decide
theorem parS_lt (op a : Nat) : parS op a < 8 := by
  have h : ∀ x ∈ parTab, x < 8 := by decide
  unfold parS
  rcases Nat.lt_or_ge (op * 3 + a) parTab.length with q | q
  · rw [List.getD_eq_getElem?_getD, List.getElem?_eq_getElem q]; exact h _ (List.getElem_mem q)
  · rw [List.getD_eq_getElem?_getD, List.getElem?_eq_none q]; decide
theorem cmbRow_lt (op a acc : Nat) (bs : List Nat) (h : acc < 8) : cmbRow op a acc bs < 8 := by
  unfold cmbRow
  induction bs generalizing acc with
  | nil => exact h
  | cons b bs ih => exact ih _ (or_lt8 h (rowS_lt _ _ _))
theorem cmbL_lt (op : Nat) (xs bs : List Nat) : cmbL op xs bs < 8 := by
  have : ∀ (xs : List Nat) (acc : Nat), acc < 8 → xs.foldl (fun r a => cmbRow op a r bs) acc < 8 := by
    intro xs
    induction xs with
    | nil => exact fun _ h => h
    | cons a xs ih => exact fun acc h => ih _ (cmbRow_lt _ _ _ _ h)
  exact this xs 0 (by decide)
theorem cmb_lt (op s t : Nat) : cmb op s t < 8 := cmbL_lt _ _ _
theorem plc_lt {s k : Nat} (h : k ∈ plc s) : k < 3 := by
  unfold plc at h
  simp at h; exact h.1
/-! The reference's words. -/
def sgnS (n : Int) : Nat := if n < 0 then 1 else if n = 0 then 2 else 4
theorem sgnS_lt (n : Int) : sgnS n < 8 := by unfold sgnS; repeat' split
                                             all_goals decide
def hasS (s : Nat) (n : Int) : Bool := s &&& sgnS n != 0
def valS (op : Nat) (a b : Int) : Option Int :=
  if 3 ≤ op ∧ b = 0 then none else some (match op with | 0 => a + b | 1 => a - b | 2 => a * b | 3 => a.fdiv b | _ => a.fmod b)
def sevenI : List Int := [-3, -2, -1, 0, 1, 2, 3]
def sgStep (op s t : Nat) (a : Int) (r : Nat) (b : Int) : Nat := match valS op a b with | none => r | some n => if hasS s a && hasS t b then r ||| sgnS n else r
def sgRow (op s t : Nat) (a : Int) (acc : Nat) (bs : List Int) : Nat := bs.foldl (sgStep op s t a) acc
def sgL (op s t : Nat) (xs : List Int) : Nat := xs.foldl (fun r a => sgRow op s t a r sevenI) 0
def sg (op s t : Nat) : Nat := sgL op s t sevenI
theorem sg_eq8 : ∀ op : Fin 5, ∀ s t : Fin 8, sg op.val s.val t.val = cmb op.val s.val t.val := by decide +kernel
theorem sg_eq {op s t : Nat} (ho : op < 5) (hs : s < 8) (ht : t < 8) : sg op s t = cmb op s t := sg_eq8 ⟨op, ho⟩ ⟨s, hs⟩ ⟨t, ht⟩
def trueS (op : Nat) (a b : Int) : Bool := match op with | 0 => a == b | 1 => a != b | 2 => decide (a < b) | _ => decide (a ≤ b)
def rgStep (op s t : Nat) (a : Int) (p : Nat × Nat) (b : Int) : Nat × Nat := if hasS s a && hasS t b && trueS op a b then (p.1 ||| sgnS a, p.2 ||| sgnS b) else p
def rgRow (op s t : Nat) (a : Int) (p : Nat × Nat) (bs : List Int) : Nat × Nat := bs.foldl (rgStep op s t a) p
def rgL (op s t : Nat) (xs : List Int) : Nat × Nat := xs.foldl (fun r a => rgRow op s t a r sevenI) (0, 0)
def rg (op s t : Nat) : Nat × Nat := rgL op s t sevenI
theorem rg_eq8 : ∀ op : Fin 4, ∀ s t : Fin 8, rg op.val s.val t.val = rfn op.val s.val t.val := by decide +kernel
theorem rg_eq {op s t : Nat} (ho : op < 4) (hs : s < 8) (ht : t < 8) : rg op s t = rfn op s t := rg_eq8 ⟨op, ho⟩ ⟨s, hs⟩ ⟨t, ht⟩
end Go.Proofs.YtmnbjkbkjmgmkaaGreatDoor

set_option linter.unusedSimpArgs false
set_option linter.unusedVariables false
namespace Go.Proofs.YtmnbjkbkjmgmkaaGreatDoor
open Go Go.Proofs Go.RowKit Go.Shelf
attribute [local go_sem] Oper.semAt_some
def Kb (B : Nat) (W W' : World) : Prop := W.heap.size ≤ W'.heap.size ∧ (B < W.heap.size → W'.heap[B]? = W.heap[B]?)
theorem Kb.refl (B : Nat) (W : World) : Kb B W W := ⟨Nat.le_refl _, fun _ => rfl⟩
theorem Kb.trans {B : Nat} {W W1 W2 : World} (h : Kb B W W1) (k : Kb B W1 W2) : Kb B W W2 := ⟨Nat.le_trans h.1 k.1, fun hl => (k.2 (Nat.lt_of_lt_of_le hl h.1)).trans (h.2 hl)⟩
theorem Kb.cell {B : Nat} {W W' : World} (h : Kb B W W') {p : Addr} (hp : p.block = B) (hl : B < W.heap.size) : W'.cell? p = W.cell? p := World.cell?_of_block (by rw [hp]; exact h.2 hl)
theorem Kb.of_below {B : Nat} {W W' : World} (h : Below W.heap.size W W') : Kb B W W' := ⟨h.size, fun hl => h.block B hl⟩
theorem Kb.alloc {B : Nat} {W W' : World} (h : Kb B W W') (o : Obj) : Kb B W (W'.alloc o) := h.trans (Kb.of_below ((Below.refl _ W').alloc (Nat.le_refl _) o))
theorem Kb.set {B : Nat} {W W' : World} (h : Kb B W W') (p : Addr) (v : Value) (hp : p.block ≠ B) : Kb B W (W'.setCell p v) :=
  h.trans ⟨by simp, fun _ => heap_setCell_other W' p B v (fun e => hp e.symm)⟩
theorem Kb.grown {B : Nat} {W W' W2 : World} (h : Kb B W W') {row : Option Nat} (hg : W'.grownBy W2 row) (hr : ∀ r, row = some r → r ≠ B) : Kb B W W2 :=
  h.trans ⟨hg.size, fun hl => hg.block B hl (fun e => hr B e.symm rfl)⟩
theorem kb_b {B : Nat} {w : World} (hB : B < w.heap.size) (W : World) (l : Nat) (o o' : Obj) (hl : w.heap.size ≤ l) (h : W.heap[l]? = some o) (_ : o.isCells = false) (_ : o.isWalk = false) : Kb B W (W.putObj l o') :=
  (Kb.refl B W).grown (grownBy_putObj' W l o') (fun r e => by cases e; omega)
theorem kb_own {β : Type} {B n : Nat} (hB : B < n) (W0 : World) : OwnFrom n (fun (_ : β) W => Kb B W0 W) := fun _ W W' row hs hg hr => hs.grown hg (fun r e => by have := (hr r e).1; omega)
def okS (s : Int) : Bool := decide (0 ≤ s ∧ s ≤ 7)
def errS (s : Int) : Int := if okS s then 0 else 2
def errB (s t : Int) : Int := if okS s then errS t else 2
theorem okS_nat {s : Int} (h : okS s = true) : ∃ m : Nat, s = (m : Int) ∧ m < 8 := by
  unfold okS at h
  have h' := of_decide_eq_true h
  exact ⟨s.toNat, by omega, by omega⟩
theorem okS_of {m : Nat} (h : m < 8) : okS (m : Int) = true := by unfold okS; exact decide_eq_true (by omega)
theorem errS_ok {s : Int} (h : okS s = true) : errS s = 0 := by unfold errS; rw [if_pos h]
theorem errB_ok {s t : Int} (h : okS s = true) (k : okS t = true) : errB s t = 0 := by unfold errB; rw [if_pos h, errS_ok k]
theorem errB_cases (s t : Int) : (okS s = true ∧ okS t = true ∧ errB s t = 0) ∨ ((okS s = false ∨ okS t = false) ∧ errB s t = 2) := by
  unfold errB errS
  cases okS s <;> cases okS t <;> simp
set_option maxHeartbeats 1000000 in
theorem sgCheck_any (s : Int) (w : World) : Calls Tryz.prog 19 #[.int .i64 s] w fun e w' => e = .returned (.int .i64 (errS s)) ∧ w' = w := by
  unfold errS okS
  by_cases h0 : s < 0
  · rw [if_neg (by simp; omega)]
    have t1 : decide (s < 0) = true := decide_eq_true h0
    go_enter Tryz.func19, Tryz.ntmps19
    go_wp2
    go_ret
    exact ⟨rfl, rfl⟩
  · have t1 : decide (s < 0) = false := decide_eq_false h0
    by_cases h1 : s ≤ 7
    · rw [if_pos (by simp; omega)]
      have t2 : decide (7 < s) = false := decide_eq_false (by omega)
      go_enter Tryz.func19, Tryz.ntmps19
      go_wp2
      go_ret
      exact ⟨rfl, rfl⟩
    · rw [if_neg (by simp; omega)]
      have t2 : decide (7 < s) = true := decide_eq_true (by omega)
      go_enter Tryz.func19, Tryz.ntmps19
      go_wp2
      go_ret
      exact ⟨rfl, rfl⟩
set_option maxHeartbeats 1000000 in
theorem sgBoth_any (s t : Int) (w : World) : Calls Tryz.prog 33 #[.int .i64 s, .int .i64 t] w fun e w' => e = .returned (.int .i64 (errB s t)) ∧ w' = w := by
  have C1 := fun W => sgCheck_any s W
  have C2 := fun W => sgCheck_any t W
  unfold errB
  cases h : okS s with
  | true =>
    rw [errS_ok h] at C1
    have K1 := Lib.hid C1; have K2 := Lib.hid C2; clear C1 C2 h
    go_enter Tryz.func33, Tryz.ntmps33
    go_wp2_with (first | (go_at_call 19; refine (K1.out _).mono ?_; clear K1; rintro e w1 ⟨rfl, rfl⟩) | (go_at_call 19; refine (K2.out _).mono ?_; rintro e w1 ⟨rfl, rfl⟩))
    go_ret
    exact ⟨rfl, rfl⟩
  | false =>
    have e1 : errS s = 2 := by unfold errS; rw [h]; rfl
    rw [e1] at C1
    have K1 := Lib.hid C1; clear C1 C2 h e1
    go_enter Tryz.func33, Tryz.ntmps33
    go_wp2_with (go_at_call 19; refine (K1.out _).mono ?_; rintro e w1 ⟨rfl, rfl⟩)
    go_ret
    exact ⟨rfl, rfl⟩
/-! The places of a set. -/
def plEnc (x : Fin 3) : Array Value := #[.int .i64 (x.val : Int)]
abbrev vals3 (l : List (Fin 3)) : List Nat := l.map Fin.val
def plcK (s k : Nat) : List Nat := (List.range k).filter fun k => s / 2 ^ k % 2 == 1
theorem plcK_succ (s k : Nat) : plcK s (k + 1) = plcK s k ++ if s / 2 ^ k % 2 = 1 then [k] else [] := by
  unfold plcK
  rw [List.range_succ, List.filter_append]
  congr 1
  by_cases h : s / 2 ^ k % 2 = 1 <;> simp [h]
theorem plcK_len (s k : Nat) : (plcK s k).length ≤ k := by
  unfold plcK; exact Nat.le_trans (List.length_filter_le _ _) (by simp)
theorem bitS (s : Nat) (hs : s < 8) (k : Nat) (hk : k < 3) : bits .and .i64 (((s : Nat) : Int) / 2 ^ k) 1 = ((s / 2 ^ k % 2 : Nat) : Int) := by
  have h : ∀ s : Fin 8, ∀ k : Fin 3, bits .and .i64 (((s.val : Nat) : Int) / 2 ^ k.val) 1 = ((s.val / 2 ^ k.val % 2 : Nat) : Int) := by decide +kernel
  exact h ⟨s, hs⟩ ⟨k, hk⟩
set_option maxRecDepth 100000 in
set_option maxHeartbeats 4000000 in
theorem places1_in (F : Fence) (n : Nat) (h6 : F.fn 50) (hro : F.round = none) (hn : 1 ≤ n) (l B s : Nat) (hs : s < 8) (J Jx : List (Fin 3) → World → Prop)
    (hY : ∀ pre x W, J pre W → pre.length < 3 → YieldAt F (n - 1) Tryz.prog l (plEnc x) W fun e W' =>
      (e = .returned (.bool true) ∧ J (pre ++ [x]) W' ∧ Kb B W W') ∨ (e = .returned (.bool false) ∧ Jx (pre ++ [x]) W'))
    (W : World) (hl : B < W.heap.size) (hc : W.cell? ⟨B, 0, none⟩ = some (.int .i64 (s : Int))) (h0 : J [] W) :
    CallsIn F n Tryz.prog 50 #[.func (.yield l) #[] #[], .pointer (some ⟨B, 0, none⟩)] W fun e W' => (∃ v, e = .returned v) ∧
      ((∃ ys, vals3 ys = plc s ∧ J ys W') ∨ (∃ pre, True ∧ Jx pre W')) := by
  have hcW : ∀ V, Kb B W V → V.cell? ⟨B, 0, none⟩ = some (.int .i64 (s : Int)) := fun V hV => (hV.cell rfl hl).trans hc
  have KY := Lib.hid hY; have KC := Lib.hid hcW; have HL := Lib.hid hl
  clear hY hcW hc hl
  refine callsIn_of_wp Tryz.func50 rfl h6 ?_ hro
  simp only [Tryz.ntmps50, List.size_toArray, List.length_cons, List.length_nil, Nat.reduceAdd, Nat.reduceSub, Array.replicate_succ, Array.replicate_zero, List.push_toArray, List.append_toArray, List.nil_append, List.cons_append]
  gi_wp2
  gi_loopw [4] (fun p wr => ∃ (k : Nat) (pre : List (Fin 3)), k ≤ 3 ∧ p = .int .i64 (k : Int) ∧ vals3 pre = plcK s k ∧ J pre wr ∧ Kb B W wr) (fun p _ => 3 - (intOf p).toNat)
  case atStart => exact ⟨0, [], by omega, rfl, rfl, h0, Kb.refl _ _⟩
  case round =>
    obtain ⟨k, pre, hk, rfl, hpre, hJ, hkb⟩ := hrel
    have HP := Lib.hid hpre; have HJ := Lib.hid hJ; clear hpre hJ
    by_cases hlt : k < 3
    · have hc := KC.out wr hkb
      have hb := bitS s hs k hlt
      have HK := Lib.hid hkb; clear hkb
      have t1 : decide ((k : Int) < 3) = true := decide_eq_true (by omega)
      have k0 : (0 : Int) ≤ (k : Int) := by omega
      have k1 : (k : Int) ≤ 64 := by omega
      have hms : s / 2 ^ k % 2 = 0 ∨ s / 2 ^ k % 2 = 1 := by omega
      have hsu := plcK_succ s k
      generalize s / 2 ^ k % 2 = m at *
      rcases hms with rfl | rfl
      · have hb0 : bits .and .i64 ((s : Int) / 2 ^ k) 1 = 0 := hb
        clear hb
        gi_wp2
        refine ⟨fun _ h => (by cases h), ?_⟩
        gi_wp2
        go_roundw
        case rel => exact ⟨k + 1, pre, by omega, rfl, by rw [hsu, if_neg (by decide), List.append_nil]; exact HP.out, HJ.out, HK.out⟩
        case measure => (simp [intOf]; omega)
      · have hb1 : bits .and .i64 ((s : Int) / 2 ^ k) 1 = 1 := hb
        clear hb
        have hlen : pre.length < 3 := by
          have h1 := congrArg List.length HP.out
          rw [List.length_map] at h1
          have := plcK_len s k; omega
        obtain ⟨fn, tmps, assign, body, hy, hR⟩ := KY.out pre ⟨k, hlt⟩ wr HJ.out hlen
        unfold plEnc at hy
        dsimp only at hy
        have KR := Lib.hid hR; clear hR
        gi_wp2
        refine KR.out.mono ?_
        rintro e W3 (⟨rfl, hJ3, hk3⟩ | ⟨rfl, hJx3⟩)
        · gi_wp2
          go_roundw
          case rel => exact ⟨k + 1, pre ++ [⟨k, hlt⟩], by omega, rfl, by rw [hsu, if_pos trivial, vals3, List.map_append]; exact congrArg (· ++ [k]) HP.out, hJ3, HK.out.trans hk3⟩
          case measure => (simp [intOf]; omega)
        · gi_wp2
          refine bodyPost_ret (results_none rfl _ _ _) rfl ?_
          exact ⟨⟨_, rfl⟩, .inr ⟨pre ++ [⟨k, hlt⟩], trivial, hJx3⟩⟩
    · have hk3 : k = 3 := by omega
      subst hk3
      gi_wp2
      go_end0
      exact ⟨⟨_, rfl⟩, .inl ⟨pre, HP.out, HJ.out⟩⟩
set_option maxHeartbeats 1000000 in
theorem places_in (F : Fence) (n : Nat) (h5 : F.fn 34) (hro : F.round = none) (s : Int) (w : World) :
    CallsIn F n Tryz.prog 34 #[.int .i64 s] w fun e w' => e = .returned (.func (.func 50) #[] #[.pointer (some ⟨w.heap.size, 0, none⟩)]) ∧ w' = w.alloc (.cells #[.int .i64 s] 3) := by
  refine callsIn_of_wp Tryz.func34 rfl h5 ?_ hro
  simp only [Tryz.ntmps34, List.size_toArray, List.length_cons, List.length_nil, Nat.reduceAdd, Nat.reduceSub, Array.replicate_succ, Array.replicate_zero, List.push_toArray, List.append_toArray, List.nil_append, List.cons_append]
  gi_wp2
  go_ret
  exact ⟨rfl, rfl⟩
theorem places_stops (F : Fence) (n : Nat) (h6 : F.fn 50) (hro : F.round = none) (hn : 1 ≤ n) (B s : Nat) (hs : s < 8) (w : World) (hB : B < w.heap.size)
    (hc : w.cell? ⟨B, 0, none⟩ = some (.int .i64 (s : Int))) :
    SeqStopsK F n Tryz.prog 50 #[.pointer (some ⟨B, 0, none⟩)] plEnc (Kb B) (fun ys => vals3 ys = plc s) (fun _ => True) 3 w := fun l J Jx W hW _ _ hY h0 =>
  places1_in F n h6 hro hn l B s hs J Jx hY W (Nat.lt_of_lt_of_le hB hW.size) ((hW.cell (p := ⟨B, 0, none⟩) hB).trans hc) h0
end Go.Proofs.YtmnbjkbkjmgmkaaGreatDoor
