/-
  A region that draws its order, by an invariant: each operation keeps it wherever it comes, and what holds at the end follows.
-/
import Derived.Test.YtmnbjkbkjmgmkaaDoorHot
set_option linter.unusedSimpArgs false
set_option linter.unusedVariables false
namespace Go.Proofs.YtmnbjkbkjmgmkaaDoor
open Go Go.Proofs Go.RowKit

section
variable {P : Program} {ops : Array Oper} {Q : Exit → Act → World → Prop} {md : Region.Mode}
/-- How many operations are still to come. -/
def unl (ops : Array Oper) (listed : Array Bool) : Nat := ((List.range ops.size).filter fun i => !listed.getD i true).length
theorem unl_set {listed : Array Bool} {i : Nat} (hi : i < ops.size) (h : listed.getD i true = false) : unl ops (listed.setIfInBounds i true) + 1 ≤ unl ops listed := by
  have hl : i < listed.size := by
    rcases Nat.lt_or_ge i listed.size with q | q
    · exact q
    · simp [Array.getElem?_eq_none q] at h
  unfold unl
  generalize ops.size = n at hi ⊢
  induction n with
  | zero => omega
  | succ n ih =>
    rw [List.range_succ, List.filter_append, List.filter_append, List.length_append, List.length_append]
    by_cases e : i = n
    · subst e
      have h1 : ((List.range i).filter fun j => !(listed.setIfInBounds i true).getD j true).length ≤ ((List.range i).filter fun j => !listed.getD j true).length := by
        rw [← List.countP_eq_length_filter, ← List.countP_eq_length_filter]
        refine List.countP_mono_left fun x hx hh => ?_
        have hne : i ≠ x := by have := List.mem_range.1 hx; omega
        rwa [getD_set_ne true hne] at hh
      have h2 : ([i].filter fun j => !(listed.setIfInBounds i true).getD j true) = [] := by simp [hl]
      have h3 : ([i].filter fun j => !listed.getD j true) = [i] := by simp only [List.filter_cons, List.filter_nil, h]; rfl
      rw [h2, h3]; simp only [List.length_nil, List.length_singleton]; omega
    · have := ih (by omega)
      have h2 : ([n].filter fun j => !(listed.setIfInBounds i true).getD j true) = ([n].filter fun j => !listed.getD j true) := by
        simp only [List.filter_cons, List.filter_nil, getD_set_ne true e]
      rw [h2]; omega
/-- Where nothing is ready, all have come: each operation waits for ones before it. -/
def backB (md : Region.Mode) (ops : Array Oper) : Bool := (List.range ops.size).all fun i => (ops[i]?.map fun o => o.after.all fun e => !Region.binds md e || decide (e.on < i)).getD true
theorem all_listed (hb : backB md ops = true) {listed : Array Bool} (hr : Region.ready md ops listed = []) (hs : listed.size = ops.size) : ∀ i, i < ops.size → listed.getD i false = true := by
  intro i
  induction i using Nat.strongRecOn with
  | ind i ih =>
    intro hi
    cases h : listed.getD i true with
    | true => simpa [hs, hi] using h
    | false =>
      exfalso
      have : i ∈ Region.ready md ops listed := by
        refine mem_ready.2 ⟨h, ops[i], Array.getElem?_eq_getElem hi, fun e he hbind => ?_⟩
        unfold backB at hb
        rw [List.all_eq_true] at hb
        have h1 := hb i (List.mem_range.2 hi)
        rw [Array.getElem?_eq_getElem hi] at h1
        simp only [Option.map_some, Option.getD_some] at h1
        have h2 := Array.all_eq_true_iff_forall_mem.1 h1 e he
        rw [hbind] at h2
        have h3 : e.on < i := by simpa using h2
        exact ih _ h3 (by omega)
      rw [hr] at this; cases this
theorem wpAny_inv (hb : backB md ops = true) (I : Array Bool → Act → World → Prop)
    (hstep : ∀ listed a w i o, I listed a w → listed.size = ops.size → ops[i]? = some o → listed.getD i true = false → (∀ e ∈ o.after, Region.binds md e = true → listed.getD e.on false = true) →
      if Region.wanted o (yielded ops a.tmps) then o.wp P a w (I (listed.setIfInBounds i true)) Q else I (listed.setIfInBounds i true) (a.put o.dst undef) w)
    (hend : ∀ listed a w, I listed a w → (∀ i, i < ops.size → listed.getD i false = true) → Q .normal a w) :
    ∀ (k : Nat) (listed : Array Bool) (a : Act) (w : World), listed.size = ops.size → unl ops listed ≤ k → I listed a w → wpAny P md ops Q k listed a w := by
  intro k
  induction k with
  | zero =>
    intro listed a w hs hk h
    have hr : Region.ready md ops listed = [] := by
      rw [List.eq_nil_iff_forall_not_mem]
      intro i hi
      obtain ⟨h1, o, ho, -⟩ := mem_ready.1 hi
      have := unl_set (ops := ops) (Array.getElem?_eq_some_iff.1 ho).1 h1
      omega
    exact ⟨hr, hend listed a w h (all_listed hb hr hs)⟩
  | succ k ih =>
    intro listed a w hs hk h
    refine ⟨fun hr => hend listed a w h (all_listed hb hr hs), fun i hi => ?_⟩
    obtain ⟨h1, o, ho, h2⟩ := mem_ready.1 hi
    have hn := unl_set (ops := ops) (Array.getElem?_eq_some_iff.1 ho).1 h1
    have g := hstep listed a w i o h hs ho h1 h2
    unfold wpOp
    simp only [ho]
    have hsz : (listed.setIfInBounds i true).size = ops.size := by rw [Array.size_setIfInBounds]; exact hs
    split
    · rename_i hw
      rw [if_pos hw] at g
      exact .inl (Oper.wp_mono (fun a' w' g' => ih _ a' w' hsz (by omega) g') g)
    · rename_i hw
      rw [if_neg hw] at g
      exact ih _ _ _ hsz (by omega) g
theorem wp_region_inv {id : Nat} {a : Act} {w : World} (hm : P.follows .mixedOrders = true) (hb : backB .any ops = true) (I : Array Bool → Act → World → Prop)
    (h0 : I (Array.replicate ops.size false) a w.drew)
    (hstep : ∀ listed a w i o, I listed a w → listed.size = ops.size → ops[i]? = some o → listed.getD i true = false → (∀ e ∈ o.after, Region.binds .any e = true → listed.getD e.on false = true) →
      if Region.wanted o (yielded ops a.tmps) then o.wp P a w (I (listed.setIfInBounds i true)) Q else I (listed.setIfInBounds i true) (a.put o.dst undef) w)
    (hend : ∀ listed a w, I listed a w → (∀ i, i < ops.size → listed.getD i false = true) → Q .normal a w) : (Code.region id ops true).wp P Q a w :=
  wp_region_any hm (wpAny_inv hb I hstep hend _ _ _ _ (by simp) (by unfold unl; exact Nat.le_trans (List.length_filter_le _ _) (by simp)) h0)
end
end Go.Proofs.YtmnbjkbkjmgmkaaDoor
