import Derived.Test.YtjjkabgbcflipaaCu5
set_option linter.unusedSimpArgs false
set_option linter.unusedVariables false
set_option autoImplicit false
namespace Go.Proofs.GM

section
variable {nx : Nat → List Nat} {r : Nat}
/-- d dominates q, seen from r. -/
def Dm (nx : Nat → List Nat) (r q d : Nat) : Prop := Rch nx (fun _ => False) r q ∧ ¬ Rch nx (fun x => x = d) r q
theorem Rch.free {B : Nat → Prop} {a b : Nat} (h : Rch nx B a b) : Rch nx (fun _ => False) a b := h.mono fun _ g => g.elim
theorem Rch.meets {B : Nat → Prop} {q d : Nat} (h : Rch nx B r q) (hn : ¬ Rch nx (fun x => x = d) r q) : Rch nx B r d := by
  refine Classical.byContradiction fun g => hn ?_
  exact (h.avoid g).mono fun x e => .inr e
theorem Dm.self {q : Nat} (h : Rch nx (fun _ => False) r q) : Dm nx r q q := ⟨h, fun g => g.right rfl⟩
theorem Dm.reach {q d : Nat} (h : Dm nx r q d) : Rch nx (fun _ => False) r d := h.1.meets h.2
theorem Dm.trans {q d e : Nat} (h : Dm nx r q d) (g : Dm nx r d e) : Dm nx r q e := ⟨h.1, fun k => g.2 (k.meets h.2)⟩
theorem Dm.anti {d e : Nat} (h : Dm nx r d e) (g : Dm nx r e d) : d = e := by
  refine Classical.byContradiction fun hne => ?_
  have key : ∀ x, Rch nx (fun _ => False) r x → Rch nx (fun x => x = d ∨ x = e) r x ∨ Rch nx (fun x => x = e) r d ∨ Rch nx (fun x => x = d) r e := by
    intro x hx
    induction hx with
    | refl _ =>
      by_cases h1 : r = d
      · exact .inr (.inl (h1 ▸ .refl (by rw [h1]; exact hne)))
      · by_cases h2 : r = e
        · exact .inr (.inr (h2 ▸ .refl (by rw [h2]; exact fun q => hne q.symm)))
        · exact .inl (.refl (fun q => q.elim h1 h2))
    | @step b c h1 h2 h3 ih =>
      rcases ih with ih | ih
      · by_cases e1 : c = d
        · subst e1
          exact .inr (.inl (.step (ih.mono fun _ => .inr) h2 hne))
        · by_cases e2 : c = e
          · subst e2
            exact .inr (.inr (.step (ih.mono fun _ => .inl) h2 e1))
          · exact .inl (.step ih h2 (fun q => q.elim e1 e2))
      · exact .inr ih
  rcases key d h.1 with k | k | k
  · exact k.right (.inl rfl)
  · exact h.2 k
  · exact g.2 k
theorem Dm.chain {q d e : Nat} (h : Dm nx r q d) (g : Dm nx r q e) (hne : d ≠ e) : Dm nx r d e ∨ Dm nx r e d := by
  have key : ∀ x, Rch nx (fun _ => False) r x → Rch nx (fun x => x = d ∨ x = e) r x ∨ Rch nx (fun x => x = e) d x ∨ Rch nx (fun x => x = d) e x := by
    intro x hx
    induction hx with
    | refl _ =>
      by_cases h1 : r = d
      · exact .inr (.inl (h1 ▸ .refl (by rw [h1]; exact hne)))
      · by_cases h2 : r = e
        · exact .inr (.inr (h2 ▸ .refl (by rw [h2]; exact fun q => hne q.symm)))
        · exact .inl (.refl (fun q => q.elim h1 h2))
    | @step b c h1 h2 h3 ih =>
      by_cases e1 : c = d
      · subst e1
        exact .inr (.inl (.refl hne))
      · by_cases e2 : c = e
        · subst e2
          exact .inr (.inr (.refl e1))
        · rcases ih with ih | ih | ih
          · exact .inl (.step ih h2 (fun q => q.elim e1 e2))
          · exact .inr (.inl (.step ih h2 e2))
          · exact .inr (.inr (.step ih h2 e1))
  rcases key q h.1 with k | k | k
  · exact (h.2 (k.mono fun _ => .inl)).elim
  · exact .inl ⟨h.reach, fun j => g.2 (j.trans k)⟩
  · exact .inr ⟨g.reach, fun j => h.2 (j.trans k)⟩
/-- p is the immediate dominator of q. -/
def IsId (nx : Nat → List Nat) (r q p : Nat) : Prop := p ≠ q ∧ Dm nx r q p ∧ ∀ e, e ≠ q → Dm nx r q e → Dm nx r p e
theorem IsId.unique {q p s : Nat} (h : IsId nx r q p) (g : IsId nx r q s) : p = s := (h.2.2 s g.1 g.2.1).anti (g.2.2 p h.1 h.2.1)

/-- How many numbers below P. -/
def cntT (f : Nat → Bool) : Nat → Nat
  | 0 => 0
  | n + 1 => cntT f n + (if f n = true then 1 else 0)
theorem cntT_le {f g : Nat → Bool} : ∀ P : Nat, (∀ x, x < P → f x = true → g x = true) → cntT f P ≤ cntT g P
  | 0, _ => Nat.le_refl _
  | n + 1, h => by
    have := cntT_le n fun x hx => h x (by omega)
    have := h n (by omega)
    unfold cntT
    by_cases e : f n = true
    · rw [if_pos e, if_pos (this e)]; omega
    · rw [if_neg e]; split <;> omega
theorem cntT_lt {f g : Nat → Bool} {y : Nat} : ∀ P : Nat, (∀ x, x < P → f x = true → g x = true) → y < P → g y = true → f y = false → cntT f P < cntT g P
  | 0, _, h, _, _ => by omega
  | n + 1, h, hy, h1, h2 => by
    unfold cntT
    by_cases e : y = n
    · subst e
      have := cntT_le y fun x hx => h x (by omega)
      rw [h1, h2]
      simp; omega
    · have := cntT_lt n (fun x hx => h x (by omega)) (by omega) h1 h2
      have := h n (by omega)
      by_cases e : f n = true
      · rw [if_pos e, if_pos (this e)]; omega
      · rw [if_neg e]; split <;> omega
/-- The dominator that is chosen by counts. -/
def immF (dom : Nat → Nat → Bool) (P q : Nat) : Nat → Int
  | 0 => -1
  | j + 1 => if j ≠ q ∧ dom q j = true ∧ (immF dom P q j < 0 ∨ cntT (dom (immF dom P q j).toNat) P < cntT (dom j) P) then (j : Int) else immF dom P q j
theorem immF_ok (dom : Nat → Nat → Bool) (P q : Nat) : ∀ j, (immF dom P q j = -1 ∧ ∀ e, e < j → e ≠ q → dom q e = false) ∨
    ∃ p : Nat, p < j ∧ immF dom P q j = (p : Int) ∧ p ≠ q ∧ dom q p = true ∧ ∀ e, e < j → e ≠ q → dom q e = true → cntT (dom e) P ≤ cntT (dom p) P
  | 0 => .inl ⟨rfl, fun e he => by omega⟩
  | j + 1 => by
    unfold immF
    by_cases hc : j ≠ q ∧ dom q j = true ∧ (immF dom P q j < 0 ∨ cntT (dom (immF dom P q j).toNat) P < cntT (dom j) P)
    · rw [if_pos hc]
      refine .inr ⟨j, by omega, rfl, hc.1, hc.2.1, fun e he h1 h2 => ?_⟩
      by_cases e1 : e = j
      · rw [e1]; exact Nat.le_refl _
      · rcases immF_ok dom P q j with ⟨-, h⟩ | ⟨p, hp, hq, -, -, h⟩
        · rw [h e (by omega) h1] at h2; cases h2
        · have := h e (by omega) h1 h2
          rcases hc.2.2 with k | k
          · rw [hq] at k; omega
          · rw [hq, Int.toNat_natCast] at k; omega
    · rw [if_neg hc]
      rcases immF_ok dom P q j with ⟨h0, h⟩ | ⟨p, hp, hq, h1, h2, h⟩
      · refine .inl ⟨h0, fun e he h1 => ?_⟩
        by_cases e1 : e = j
        · subst e1
          rw [← Bool.not_eq_true]
          exact fun k => hc ⟨h1, k, .inl (by omega)⟩
        · exact h e (by omega) h1
      · refine .inr ⟨p, by omega, hq, h1, h2, fun e he k1 k2 => ?_⟩
        by_cases e1 : e = j
        · subst e1
          refine Nat.le_of_not_lt fun k => hc ⟨k1, k2, .inr ?_⟩
          rw [hq, Int.toNat_natCast]; exact k
        · exact h e (by omega) k1 k2
/-- The one that is chosen by counts is the immediate one. -/
theorem immF_id {dom : Nat → Nat → Bool} {P q : Nat} (hd : ∀ x e, x < P → e < P → (dom x e = true ↔ Dm nx r x e)) (hP : ∀ x, Rch nx (fun _ => False) r x → x < P) (hq : q < P) :
    (immF dom P q P = -1 ∧ ∀ e, e ≠ q → ¬ Dm nx r q e) ∨ ∃ p : Nat, p < P ∧ immF dom P q P = (p : Int) ∧ IsId nx r q p := by
  rcases immF_ok dom P q P with ⟨h0, h⟩ | ⟨p, hp, h0, h1, h2, h⟩
  · refine .inl ⟨h0, fun e he g => ?_⟩
    have hl := hP e g.reach
    have := h e hl he
    rw [(hd q e hq hl).2 g] at this
    cases this
  · have hqp := (hd q p hq hp).1 h2
    refine .inr ⟨p, hp, h0, h1, hqp, fun e he g => ?_⟩
    have hl := hP e g.reach
    by_cases e1 : e = p
    · rw [e1]; exact Dm.self hqp.reach
    · rcases hqp.chain g (fun q => e1 q.symm) with k | k
      · exact k
      · have h3 := h e hl he ((hd q e hq hl).2 g)
        have h4 : cntT (dom p) P < cntT (dom e) P := by
          refine cntT_lt P (y := e) (fun x hx h => ?_) hl ((hd e e hl hl).2 (Dm.self g.reach)) ?_
          · exact (hd e x hl hx).2 (k.trans ((hd p x hp hx).1 h))
          · rw [← Bool.not_eq_true]
            exact fun j => e1 ((k.anti ((hd p e hp hl).1 j)))
        omega
/-- The first strict dominator in the order of a visit is the immediate one. -/
theorem first_id {t : List Nat} {q p : Nat} (hv : VL nx (fun _ => False) [r] t) {u v : List Nat} (ht : t = u ++ p :: v) (hp : p ≠ q ∧ Dm nx r q p) (hu : ∀ e ∈ u, ¬ (e ≠ q ∧ Dm nx r q e)) : IsId nx r q p := by
  have hnd := hv.nodup
  refine ⟨hp.1, hp.2, fun e he g => ?_⟩
  by_cases e1 : e = p
  · rw [e1]; exact Dm.self hp.2.reach
  · rcases hp.2.chain g (fun q => e1 q.symm) with k | k
    · exact k
    · exfalso
      have het : e ∈ t := (hv.mem e).2 ⟨r, by simp, g.reach⟩
      have hpt : p ∈ t := by rw [ht]; simp
      have hle := hv.over p hpt e het (by
        rintro ⟨x, hx, j⟩
        rw [List.mem_singleton] at hx
        subst hx
        exact k.2 (j.mono fun y hy => .inr hy))
      have hi := ((Le.idx hnd).1 hle).2.2
      have heu : e ∉ u := fun j => hu e j ⟨he, g⟩
      have hpu : p ∉ u := by
        rw [ht, List.nodup_append] at hnd
        exact fun j => hnd.2.2 p j p (by simp) rfl
      rw [ht, List.idxOf_append, List.idxOf_append, if_neg heu, if_neg hpu, List.idxOf_cons, List.idxOf_cons] at hi
      have e2 : (p == e) = false := by simpa using fun q => e1 q.symm
      have e3 : (p == p) = true := by simp
      rw [e2, e3] at hi
      simp only [cond_false, cond_true, Nat.zero_add, Nat.add_zero] at hi
      omega
end
end Go.Proofs.GM
