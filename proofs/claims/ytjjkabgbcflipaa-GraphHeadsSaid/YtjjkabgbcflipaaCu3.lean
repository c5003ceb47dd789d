import Derived.Test.YtjjkabgbcflipaaCu2
set_option linter.unusedSimpArgs false
set_option linter.unusedVariables false
namespace Go.Proofs.Ytjjkabgbcflipaa
open Go Go.Proofs Go.RowKit

section
variable {P : Program} {ops : Array Oper} {Q : Exit → Act → World → Prop} {md : Region.Mode} {S : World → Prop} {hot : Nat → Bool}

/-- No hot operation has come up. -/
def calmB (hot : Nat → Bool) (listed : Array Bool) : Bool := (List.range listed.size).all fun j => !hot j || !listed.getD j false
theorem calmB_spec {listed : Array Bool} (h : calmB hot listed = true) (j : Nat) (hj : hot j = true) : listed.getD j false = false := by
  unfold calmB at h
  rw [List.all_eq_true] at h
  rcases Nat.lt_or_ge j listed.size with q | q
  · have := h j (List.mem_range.2 q)
    rw [hj] at this
    simpa using this
  · simp [Array.getElem?_eq_none q]
theorem calmB_of {listed : Array Bool} (h : ∀ j, hot j = true → listed.getD j false = false) : calmB hot listed = true := by
  unfold calmB
  rw [List.all_eq_true]
  intro j _
  cases hj : hot j
  · rfl
  · rw [h j hj]; rfl
theorem calmB_drop {listed : Array Bool} {i : Nat} (h : calmB hot (listed.setIfInBounds i true) = true) : calmB hot listed = true := calmB_of fun j hj => by
  have := calmB_spec h j hj
  rcases Decidable.em (i = j) with rfl | hne
  · rcases Nat.lt_or_ge i listed.size with q | q
    · simp [q] at this
    · simp [Array.getElem?_eq_none q]
  · rwa [getD_set_ne false hne] at this
theorem calmB_set {listed : Array Bool} {i : Nat} (hi : hot i = false) (h : calmB hot listed = true) : calmB hot (listed.setIfInBounds i true) = true := calmB_of fun j hj => by
  have hne : i ≠ j := fun e => by subst e; rw [hi] at hj; cases hj
  rw [getD_set_ne false hne]; exact calmB_spec h j hj

/-- Whatever order is picked from here on; S holds till a hot operation comes up. -/
def wpAnyM (P : Program) (md : Region.Mode) (ops : Array Oper) (Q : Exit → Act → World → Prop) (S : World → Prop) (hot : Nat → Bool) : Nat → Array Bool → Act → World → Prop
  | 0, listed, a, w => Region.ready md ops listed = [] ∧ Q .normal a w
  | k + 1, listed, a, w =>
    (Region.ready md ops listed = [] → Q .normal a w) ∧
    ∀ i ∈ Region.ready md ops listed, wpOp P ops Q i (fun a' w' => (calmB hot (listed.setIfInBounds i true) = true → S w') ∧ wpAnyM P md ops Q S hot k (listed.setIfInBounds i true) a' w') a w
theorem any_of_hot : ∀ (k : Nat) (listed : Array Bool) (a : Act) (w : World), wpAnyM P md ops Q S hot k listed a w → wpAny P md ops Q k listed a w
  | 0, _, _, _, h => h
  | k + 1, _, _, _, h => ⟨h.1, fun i hi => wpOp_mono (fun a' w' g => any_of_hot k _ a' w' g.2) (h.2 i hi)⟩

/-- An operation is taken first: one that yields where S holds, for which all hot ones wait, or one that yields in every world. -/
theorem hot_first {i : Nat} {oi : Oper} {v : Value} (hi : ops[i]? = some oi) (hsel : ∀ (j : Nat) (o : Oper) cs b, ops[j]? = some o → o.op ≠ .select cs b) (hni : hot i = false)
    (hQ : ∀ c a w, Q (.panic c) (a.put oi.dst v) w → Q (.panic c) a w)
    (free : Bool)
    (hfr : free = false → ∀ (j : Nat) (o : Oper), ops[j]? = some o → hot j = true → ∃ e ∈ o.after, Region.binds md e = true ∧ e.on = i) :
    ∀ (k : Nat) (listed : Array Bool) (a : Act) (w : World),
      (∀ j oj, ops[j]? = some oj → j ≠ i → listed.getD j true = false → (∀ e ∈ oj.after, Region.binds md e = true → e.on ≠ i) → oi.apart ops oj = true) →
      i ∈ Region.ready md ops listed → YieldsIf P ops (if free = true then fun _ => True else S) oi v a → (calmB hot listed = true → S w) → (free = false → calmB hot listed = true) →
      wpAnyM P md ops Q S hot k (listed.setIfInBounds i true) (a.put oi.dst v) w → wpAnyM P md ops Q S hot (k + 1) listed a w := by
  intro k
  induction k with
  | zero =>
    intro listed a w _ hr hy hS hc H
    refine ⟨fun h => absurd hr (by rw [h]; simp), fun j hj => ?_⟩
    rcases Decidable.em (j = i) with rfl | hne
    · exact hy.wpOp hi (by cases free with | true => trivial | false => exact hS (hc rfl)) ⟨fun h => hS (calmB_drop h), H⟩
    · have := ready_mono hj hne
      rw [H.1] at this
      cases this
  | succ k ih =>
    intro listed a w hfree hr hy hS hc H
    refine ⟨fun h => absurd hr (by rw [h]; simp), fun j hj => ?_⟩
    rcases Decidable.em (j = i) with rfl | hne
    · exact hy.wpOp hi (by cases free with | true => trivial | false => exact hS (hc rfl)) ⟨fun h => hS (calmB_drop h), H⟩
    · have g := H.2 j (ready_mono hj hne)
      obtain ⟨hun, oj, hoj, hall⟩ := mem_ready.1 hj
      have hfar : ∀ e ∈ oj.after, Region.binds md e = true → e.on ≠ i := fun e he hb heq => by
        have u1 := hall e he hb
        have u0 := (mem_ready.1 hr).1
        rw [heq] at u1
        rcases Nat.lt_or_ge i listed.size with q | q
        · simp [q] at u0 u1; rw [u0] at u1; cases u1
        · simp [Array.getElem?_eq_none q] at u1
      have g2 := wpOp_putIf hoj (hfree j oj hoj hne hun hfar) (fun cs b => hsel i oi cs b hi) (fun cs b => hsel j oj cs b hoj) hQ hy g
      have hfree2 : ∀ m om, ops[m]? = some om → m ≠ i → (listed.setIfInBounds j true).getD m true = false → (∀ e ∈ om.after, Region.binds md e = true → e.on ≠ i) → oi.apart ops om = true := fun m om hm hmi hu hno => by
        refine hfree m om hm hmi ?_ hno
        rcases Decidable.em (j = m) with rfl | hjm
        · exact hun
        · rw [getD_set_ne true hjm] at hu; exact hu
      have hcj : free = false → calmB hot (listed.setIfInBounds j true) = true := fun hf => by
        have hnh : hot j = false := by
          cases hh : hot j
          · rfl
          · obtain ⟨e, he, hb, hon⟩ := hfr hf j oj hoj hh
            exact absurd hon (hfar e he hb)
        exact calmB_set hnh (hc hf)
      refine wpOp_mono (fun a' w' z => ⟨fun h => z.2.1 ?_, ih (listed.setIfInBounds j true) a' w' hfree2 (ready_mono hr (Ne.symm hne)) z.1 (fun h => z.2.1 ?_) hcj ?_⟩) g2
      all_goals first
        | (rw [Array.setIfInBounds_comm _ _ hne]; exact z.2.2)
        | (rw [Array.setIfInBounds_comm _ _ hne]; exact calmB_set hni h)
        | (rw [Array.setIfInBounds_comm _ _ (Ne.symm hne)]; exact calmB_set hni h)
/-- All hot operations wait for number i. -/
def waitB (md : Region.Mode) (ops : Array Oper) (hot : Nat → Bool) (i : Nat) : Bool :=
  (List.range ops.size).all fun j => !hot j || (match ops[j]? with | some o => o.after.any (fun e => Region.binds md e && e.on == i) | none => true)
theorem waitB_spec {i : Nat} (h : waitB md ops hot i = true) (j : Nat) (o : Oper) (hj : ops[j]? = some o) (hh : hot j = true) : ∃ e ∈ o.after, Region.binds md e = true ∧ e.on = i := by
  unfold waitB at h
  rw [List.all_eq_true] at h
  have lt : j < ops.size := by
    rcases Nat.lt_or_ge j ops.size with q | q
    · exact q
    · rw [Array.getElem?_eq_none q] at hj; cases hj
  have := h j (List.mem_range.2 lt)
  rw [hh, hj] at this
  simp only [Bool.not_true, Bool.false_or] at this
  obtain ⟨e, he, hb⟩ := Array.any_eq_true'.1 this
  simp only [Bool.and_eq_true, beq_iff_eq] at hb
  exact ⟨e, he, hb.1, hb.2⟩
theorem hot_take {i : Nat} {oi : Oper} {v : Value} {k : Nat} {listed : Array Bool} {a : Act} {w : World} (hi : ops[i]? = some oi)
    (hs : Region.noSelect ops = true) (hf : Region.free md ops listed i = true) (hr : (Region.ready md ops listed).contains i = true) (hni : hot i = false) (hwt : waitB md ops hot i = true) (hcl : calmB hot listed = true)
    (hQ : ∀ c a w, Q (.panic c) (a.put oi.dst v) w → Q (.panic c) a w) (hy : YieldsIf P ops S oi v a) (hS : S w)
    (h : wpAnyM P md ops Q S hot k (listed.setIfInBounds i true) (a.put oi.dst v) w) : wpAnyM P md ops Q S hot (k + 1) listed a w :=
  hot_first hi (Region.noSelect_spec hs) hni hQ false (fun _ => waitB_spec hwt) k listed a w (Region.free_spec hi hf) (by simpa using hr) (by simpa using hy) (fun _ => hS) (fun _ => hcl) h
theorem hot_takeW {i : Nat} {oi : Oper} {v : Value} {k : Nat} {listed : Array Bool} {a : Act} {w : World} (hi : ops[i]? = some oi)
    (hs : Region.noSelect ops = true) (hf : Region.free md ops listed i = true) (hr : (Region.ready md ops listed).contains i = true) (hni : hot i = false)
    (hQ : ∀ c a w, Q (.panic c) (a.put oi.dst v) w → Q (.panic c) a w) (hy : YieldsIf P ops (fun _ => True) oi v a) (hS : S w)
    (h : wpAnyM P md ops Q S hot k (listed.setIfInBounds i true) (a.put oi.dst v) w) : wpAnyM P md ops Q S hot (k + 1) listed a w :=
  hot_first hi (Region.noSelect_spec hs) hni hQ true (fun h => by cases h) k listed a w (Region.free_spec hi hf) (by simpa using hr) (by simpa using hy) (fun _ => hS) (fun h => by cases h) h
theorem hot_one {i : Nat} {oi : Oper} {k : Nat} {listed : Array Bool} {a : Act} {w : World} (hi : ops[i]? = some oi) (hr : Region.ready md ops listed = [i])
    (h : ∀ K : Act → World → Prop, Hid (∀ a' w', (calmB hot (listed.setIfInBounds i true) = true → S w') → wpAnyM P md ops Q S hot k (listed.setIfInBounds i true) a' w' → K a' w') →
      if Region.wanted oi (yielded ops a.tmps) = true then Oper.wp P oi a w K Q else K (a.put oi.dst undef) w) : wpAnyM P md ops Q S hot (k + 1) listed a w := by
  have g := h (fun a' w' => (calmB hot (listed.setIfInBounds i true) = true → S w') ∧ wpAnyM P md ops Q S hot k (listed.setIfInBounds i true) a' w') (Lib.hid fun a' w' h1 h2 => ⟨h1, h2⟩)
  refine ⟨fun h0 => (by rw [hr] at h0; cases h0), fun j hj => ?_⟩
  rw [hr] at hj
  obtain rfl := List.mem_singleton.1 hj
  unfold wpOp
  simp only [hi]
  split
  · rename_i hw; rw [if_pos hw] at g; exact .inl g
  · rename_i hw; rw [if_neg hw] at g; exact g
theorem hot_done {listed : Array Bool} {a : Act} {w : World} (hr : Region.ready md ops listed = []) (h : Q .normal a w) : ∀ k, wpAnyM P md ops Q S hot k listed a w
  | 0 => ⟨hr, h⟩
  | _ + 1 => ⟨fun _ => h, by rw [hr]; simp⟩
theorem wp_region_hot {id : Nat} {a : Act} {w : World} (hot : Nat → Bool) (S : World → Prop) (hm : P.follows .mixedOrders = true) (hS : S w.drew)
    (h : S w.drew → wpAnyM P .any ops Q S hot ops.size (Array.replicate ops.size false) a w.drew) : (Code.region id ops true).wp P Q a w :=
  wp_region_any hm (any_of_hot _ _ _ _ (h hS))
theorem wpIn_region_hot {l n id : Nat} {a : Act} {w : World} (hot : Nat → Bool) (S : World → Prop) (hm : P.follows .mixedOrders = true)
    (hd : ops.all (fun o => !isDefer o.op) = true) (hQ : ¬ LetsOut Q) (hS : S w.drew)
    (h : S w.drew → wpAnyM P .any ops Q S hot ops.size (Array.replicate ops.size false) a w.drew) : (Code.region id ops true).wpIn (Fence.wide.inRound l) n P Q a w :=
  wpIn_region_any hm (anyIn_of_any (noDefer hd) hQ _ _ _ _ (any_of_hot _ _ _ _ (h hS)))
end
end Go.Proofs.Ytjjkabgbcflipaa
