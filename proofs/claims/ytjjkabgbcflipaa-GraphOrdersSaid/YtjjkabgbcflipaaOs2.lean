import Derived.Test.YtjjkabgbcflipaaCu5
import Derived.Test.YtjjkabgbcflipaaCu23
import Derived.Test.YtjjkabgbcflipaaCu10
import Derived.Test.YtjjkabgbcflipaaCu27
set_option linter.unusedSimpArgs false
set_option linter.unusedVariables false
set_option autoImplicit false
namespace Go.Proofs.GM

section
variable {nx : Nat → List Nat} {r : Nat}
/-- d dominates q, seen from r. -/
def Dm (nx : Nat → List Nat) (r q d : Nat) : Prop := Rch nx (fun _ => False) r q ∧ ¬ Rch nx (fun x => x = d) r q
theorem Rch.free {B : Nat → Prop} {a b : Nat} (h : Rch nx B a b) : Rch nx (fun _ => False) a b := h.mono fun _ g => g.elim
theorem Rch.meets {B : Nat → Prop} {q d : Nat} (h : Rch nx B r q) (hn : ¬ Rch nx (fun x => x = d) r q) : Rch nx B r d := by
  refine Classical.byContradiction fun g => hn ?_
  exact (h.avoid g).mono fun x e => .inr e
theorem Dm.self {q : Nat} (h : Rch nx (fun _ => False) r q) : Dm nx r q q := ⟨h, fun g => g.right rfl⟩
theorem Dm.reach {q d : Nat} (h : Dm nx r q d) : Rch nx (fun _ => False) r d := h.1.meets h.2
theorem Dm.trans {q d e : Nat} (h : Dm nx r q d) (g : Dm nx r d e) : Dm nx r q e := ⟨h.1, fun k => g.2 (k.meets h.2)⟩
theorem Dm.anti {d e : Nat} (h : Dm nx r d e) (g : Dm nx r e d) : d = e := by
  refine Classical.byContradiction fun hne => ?_
  have key : ∀ x, Rch nx (fun _ => False) r x → Rch nx (fun x => x = d ∨ x = e) r x ∨ Rch nx (fun x => x = e) r d ∨ Rch nx (fun x => x = d) r e := by
    intro x hx
    induction hx with
    | refl _ =>
      by_cases h1 : r = d
      · exact .inr (.inl (h1 ▸ .refl (by rw [h1]; exact hne)))
      · by_cases h2 : r = e
        · exact .inr (.inr (h2 ▸ .refl (by rw [h2]; exact fun q => hne q.symm)))
        · exact .inl (.refl (fun q => q.elim h1 h2))
    | @step b c h1 h2 h3 ih =>
      rcases ih with ih | ih
      · by_cases e1 : c = d
        · subst e1
          exact .inr (.inl (.step (ih.mono fun _ => .inr) h2 hne))
        · by_cases e2 : c = e
          · subst e2
            exact .inr (.inr (.step (ih.mono fun _ => .inl) h2 e1))
          · exact .inl (.step ih h2 (fun q => q.elim e1 e2))
      · exact .inr ih
  rcases key d h.1 with k | k | k
  · exact k.right (.inl rfl)
  · exact h.2 k
  · exact g.2 k
theorem Dm.chain {q d e : Nat} (h : Dm nx r q d) (g : Dm nx r q e) (hne : d ≠ e) : Dm nx r d e ∨ Dm nx r e d := by
  have key : ∀ x, Rch nx (fun _ => False) r x → Rch nx (fun x => x = d ∨ x = e) r x ∨ Rch nx (fun x => x = e) d x ∨ Rch nx (fun x => x = d) e x := by
    intro x hx
    induction hx with
    | refl _ =>
      by_cases h1 : r = d
      · exact .inr (.inl (h1 ▸ .refl (by rw [h1]; exact hne)))
      · by_cases h2 : r = e
        · exact .inr (.inr (h2 ▸ .refl (by rw [h2]; exact fun q => hne q.symm)))
        · exact .inl (.refl (fun q => q.elim h1 h2))
    | @step b c h1 h2 h3 ih =>
      by_cases e1 : c = d
      · subst e1
        exact .inr (.inl (.refl hne))
      · by_cases e2 : c = e
        · subst e2
          exact .inr (.inr (.refl e1))
        · rcases ih with ih | ih | ih
          · exact .inl (.step ih h2 (fun q => q.elim e1 e2))
          · exact .inr (.inl (.step ih h2 e2))
          · exact .inr (.inr (.step ih h2 e1))
  rcases key q h.1 with k | k | k
  · exact (h.2 (k.mono fun _ => .inl)).elim
  · exact .inl ⟨h.reach, fun j => g.2 (j.trans k)⟩
  · exact .inr ⟨g.reach, fun j => h.2 (j.trans k)⟩
/-- p is the immediate dominator of q. -/
def IsId (nx : Nat → List Nat) (r q p : Nat) : Prop := p ≠ q ∧ Dm nx r q p ∧ ∀ e, e ≠ q → Dm nx r q e → Dm nx r p e
theorem IsId.unique {q p s : Nat} (h : IsId nx r q p) (g : IsId nx r q s) : p = s := (h.2.2 s g.1 g.2.1).anti (g.2.2 p h.1 h.2.1)

/-- How many numbers below P. -/
def cntT (f : Nat → Bool) : Nat → Nat
  | 0 => 0
  | n + 1 => cntT f n + (if f n = true then 1 else 0)
theorem cntT_le {f g : Nat → Bool} : ∀ P : Nat, (∀ x, x < P → f x = true → g x = true) → cntT f P ≤ cntT g P
  | 0, _ => Nat.le_refl _
  | n + 1, h => by
    have := cntT_le n fun x hx => h x (by omega)
    have := h n (by omega)
    unfold cntT
    by_cases e : f n = true
    · rw [if_pos e, if_pos (this e)]; omega
    · rw [if_neg e]; split <;> omega
theorem cntT_lt {f g : Nat → Bool} {y : Nat} : ∀ P : Nat, (∀ x, x < P → f x = true → g x = true) → y < P → g y = true → f y = false → cntT f P < cntT g P
  | 0, _, h, _, _ => by omega
  | n + 1, h, hy, h1, h2 => by
    unfold cntT
    by_cases e : y = n
    · subst e
      have := cntT_le y fun x hx => h x (by omega)
      rw [h1, h2]
      simp; omega
    · have := cntT_lt n (fun x hx => h x (by omega)) (by omega) h1 h2
      have := h n (by omega)
      by_cases e : f n = true
      · rw [if_pos e, if_pos (this e)]; omega
      · rw [if_neg e]; split <;> omega
/-- The dominator that is chosen by counts. -/
def immF (dom : Nat → Nat → Bool) (P q : Nat) : Nat → Int
  | 0 => -1
  | j + 1 => if j ≠ q ∧ dom q j = true ∧ (immF dom P q j < 0 ∨ cntT (dom (immF dom P q j).toNat) P < cntT (dom j) P) then (j : Int) else immF dom P q j
theorem immF_ok (dom : Nat → Nat → Bool) (P q : Nat) : ∀ j, (immF dom P q j = -1 ∧ ∀ e, e < j → e ≠ q → dom q e = false) ∨
    ∃ p : Nat, p < j ∧ immF dom P q j = (p : Int) ∧ p ≠ q ∧ dom q p = true ∧ ∀ e, e < j → e ≠ q → dom q e = true → cntT (dom e) P ≤ cntT (dom p) P
  | 0 => .inl ⟨rfl, fun e he => by omega⟩
  | j + 1 => by
    unfold immF
    by_cases hc : j ≠ q ∧ dom q j = true ∧ (immF dom P q j < 0 ∨ cntT (dom (immF dom P q j).toNat) P < cntT (dom j) P)
    · rw [if_pos hc]
      refine .inr ⟨j, by omega, rfl, hc.1, hc.2.1, fun e he h1 h2 => ?_⟩
      by_cases e1 : e = j
      · rw [e1]; exact Nat.le_refl _
      · rcases immF_ok dom P q j with ⟨-, h⟩ | ⟨p, hp, hq, -, -, h⟩
        · rw [h e (by omega) h1] at h2; cases h2
        · have := h e (by omega) h1 h2
          rcases hc.2.2 with k | k
          · rw [hq] at k; omega
          · rw [hq, Int.toNat_natCast] at k; omega
    · rw [if_neg hc]
      rcases immF_ok dom P q j with ⟨h0, h⟩ | ⟨p, hp, hq, h1, h2, h⟩
      · refine .inl ⟨h0, fun e he h1 => ?_⟩
        by_cases e1 : e = j
        · subst e1
          rw [← Bool.not_eq_true]
          exact fun k => hc ⟨h1, k, .inl (by omega)⟩
        · exact h e (by omega) h1
      · refine .inr ⟨p, by omega, hq, h1, h2, fun e he k1 k2 => ?_⟩
        by_cases e1 : e = j
        · subst e1
          refine Nat.le_of_not_lt fun k => hc ⟨k1, k2, .inr ?_⟩
          rw [hq, Int.toNat_natCast]; exact k
        · exact h e (by omega) k1 k2
/-- The one that is chosen by counts is the immediate one. -/
theorem immF_id {dom : Nat → Nat → Bool} {P q : Nat} (hd : ∀ x e, x < P → e < P → (dom x e = true ↔ Dm nx r x e)) (hP : ∀ x, Rch nx (fun _ => False) r x → x < P) (hq : q < P) :
    (immF dom P q P = -1 ∧ ∀ e, e ≠ q → ¬ Dm nx r q e) ∨ ∃ p : Nat, p < P ∧ immF dom P q P = (p : Int) ∧ IsId nx r q p := by
  rcases immF_ok dom P q P with ⟨h0, h⟩ | ⟨p, hp, h0, h1, h2, h⟩
  · refine .inl ⟨h0, fun e he g => ?_⟩
    have hl := hP e g.reach
    have := h e hl he
    rw [(hd q e hq hl).2 g] at this
    cases this
  · have hqp := (hd q p hq hp).1 h2
    refine .inr ⟨p, hp, h0, h1, hqp, fun e he g => ?_⟩
    have hl := hP e g.reach
    by_cases e1 : e = p
    · rw [e1]; exact Dm.self hqp.reach
    · rcases hqp.chain g (fun q => e1 q.symm) with k | k
      · exact k
      · have h3 := h e hl he ((hd q e hq hl).2 g)
        have h4 : cntT (dom p) P < cntT (dom e) P := by
          refine cntT_lt P (y := e) (fun x hx h => ?_) hl ((hd e e hl hl).2 (Dm.self g.reach)) ?_
          · exact (hd e x hl hx).2 (k.trans ((hd p x hp hx).1 h))
          · rw [← Bool.not_eq_true]
            exact fun j => e1 ((k.anti ((hd p e hp hl).1 j)))
        omega
/-- The first strict dominator in the order of a visit is the immediate one. -/
theorem first_id {t : List Nat} {q p : Nat} (hv : VL nx (fun _ => False) [r] t) {u v : List Nat} (ht : t = u ++ p :: v) (hp : p ≠ q ∧ Dm nx r q p) (hu : ∀ e ∈ u, ¬ (e ≠ q ∧ Dm nx r q e)) : IsId nx r q p := by
  have hnd := hv.nodup
  refine ⟨hp.1, hp.2, fun e he g => ?_⟩
  by_cases e1 : e = p
  · rw [e1]; exact Dm.self hp.2.reach
  · rcases hp.2.chain g (fun q => e1 q.symm) with k | k
    · exact k
    · exfalso
      have het : e ∈ t := (hv.mem e).2 ⟨r, by simp, g.reach⟩
      have hpt : p ∈ t := by rw [ht]; simp
      have hle := hv.over p hpt e het (by
        rintro ⟨x, hx, j⟩
        rw [List.mem_singleton] at hx
        subst hx
        exact k.2 (j.mono fun y hy => .inr hy))
      have hi := ((Le.idx hnd).1 hle).2.2
      have heu : e ∉ u := fun j => hu e j ⟨he, g⟩
      have hpu : p ∉ u := by
        rw [ht, List.nodup_append] at hnd
        exact fun j => hnd.2.2 p j p (by simp) rfl
      rw [ht, List.idxOf_append, List.idxOf_append, if_neg heu, if_neg hpu, List.idxOf_cons, List.idxOf_cons] at hi
      have e2 : (p == e) = false := by simpa using fun q => e1 q.symm
      have e3 : (p == p) = true := by simp
      rw [e2, e3] at hi
      simp only [cond_false, cond_true, Nat.zero_add, Nat.add_zero] at hi
      omega
end
end Go.Proofs.GM
namespace Go.Proofs.Ytjjkabgbcflipaa
open Go Go.Proofs Go.RowKit GM

/-- Two points reach each other. -/
def Mu (nx : Nat → List Nat) (a b : Nat) : Prop := Rch nx (fun _ => False) a b ∧ Rch nx (fun _ => False) b a
theorem Mu.refl (nx : Nat → List Nat) (a : Nat) : Mu nx a a := ⟨.refl id, .refl id⟩
theorem Mu.symm {nx : Nat → List Nat} {a b : Nat} (h : Mu nx a b) : Mu nx b a := ⟨h.2, h.1⟩
theorem Mu.trans {nx : Nat → List Nat} {a b c : Nat} (h : Mu nx a b) (g : Mu nx b c) : Mu nx a c := ⟨h.1.trans g.1, g.2.trans h.2⟩
theorem Rch.turn {nx nr : Nat → List Nat} (hr : ∀ a b, b ∈ nr a ↔ a ∈ nx b) {B : Nat → Prop} {a b : Nat} (h : Rch nr B a b) : Rch nx B b a := by
  induction h with
  | refl h => exact .refl h
  | step _ h1 h2 ih => exact Rch.cons h2 ((hr _ _).1 h1) ih
/-- A path between points that reach each other avoids what is closed. -/
theorem Mu.avoid {nx : Nat → List Nat} {B : Nat → Prop} (hB : ∀ x y, B x → Mu nx x y → B y) {x p : Nat} (hx : ¬ B x) (h : Mu nx x p) : Rch nx B x p := by
  have key : ∀ y, Rch nx (fun _ => False) x y → Rch nx (fun _ => False) y x → Rch nx B x y := by
    intro y g
    induction g with
    | refl _ => exact fun _ => .refl hx
    | @step b c h1 h2 h3 ih =>
      intro k
      have hb : Rch nx (fun _ => False) b x := Rch.cons id h2 k
      exact .step (ih hb) h2 fun q => hx (hB c x q ⟨k, h1.step h2 id⟩)
  exact key p h.1 h.2
/-- What is collected so far. -/
structure ScS (nx : Nat → List Nat) (ps tt : List Nat) (us : List (List Nat)) : Prop where
  clo : ∀ x y, x ∈ tt → Mu nx x y → y ∈ tt
  all : ∀ p ∈ ps, p ∈ tt
  cls : ∀ u ∈ us, ∀ a ∈ u, ∀ b, b ∈ u ↔ Mu nx a b
theorem scs_of {nx nr : Nat → List Nat} {P : Nat} {t : List Nat} (hr : ∀ a b, b ∈ nr a ↔ a ∈ nx b) (hn : ∀ a b, b ∈ nx a → a < P) (ht : VL nx (fun _ => False) (List.range P) t) :
    ∀ {ps tt us}, GR nr ps tt us → (∃ rest, t.reverse = ps ++ rest) → (∀ p ∈ ps, p < P) → ScS nx ps tt us := by
  intro ps tt us g
  induction g with
  | nil => exact fun _ _ => ⟨by simp, by simp, by simp⟩
  | @old ps tt us p g hv ih =>
    rintro ⟨rest, hrest⟩ hp
    have s := ih ⟨p :: rest, by rw [hrest]; simp⟩ (fun q hq => hp q (by simp [hq]))
    refine ⟨s.clo, fun q hq => ?_, s.cls⟩
    rcases List.mem_append.1 hq with hq | hq
    · exact s.all q hq
    · rw [List.mem_singleton] at hq
      subst hq
      exact (hv.takes q (by simp)).resolve_right (by simp)
  | @new ps tt u us p g hv hu ih =>
    rintro ⟨rest, hrest⟩ hp
    have s := ih ⟨p :: rest, by rw [hrest]; simp⟩ (fun q hq => hp q (by simp [hq]))
    have hpP : p < P := hp p (by simp)
    have hpt : p ∉ tt := by
      obtain ⟨x, hx⟩ := List.exists_mem_of_ne_nil u hu
      obtain ⟨q, hq, k⟩ := (hv.mem x).1 hx
      rw [List.mem_singleton] at hq
      subst hq
      exact k.left
    have hmem : ∀ x, x ∈ u ↔ Rch nr (fun x => x ∈ tt) p x := fun x => (hv.mem x).trans ⟨fun ⟨q, hq, k⟩ => by rw [List.mem_singleton] at hq; subst hq; exact k, fun k => ⟨p, by simp, k⟩⟩
    have hin : ∀ x, x < P → x ∈ t := fun x hx => (ht.takes x (List.mem_range.2 hx)).resolve_left id
    have htd : t = rest.reverse ++ p :: ps.reverse := by
      have := congrArg List.reverse hrest
      rw [List.reverse_reverse] at this
      rw [this]; simp
    have hnd := ht.nodup
    have hcl : ∀ x, x ∈ u ↔ Mu nx p x := by
      intro x
      rw [hmem]
      constructor
      · intro k
        have k2 : Rch nx (fun x => x ∈ tt) x p := Rch.turn hr k
        have hxt : x ∉ tt := k2.left
        have hxP : x < P := by
          rcases k2.head with e | ⟨c, hc, -⟩
          · rw [e]; exact hpP
          · exact hn x c hc
        obtain ⟨z, h1, h2, h3⟩ := ht.behind x (hin x hxP) p k2.free
        by_cases e : z = p
        · subst e; exact ⟨h2, h1⟩
        · exfalso
          have hz : z ∈ ps := by
            have hi := ((Le.idx hnd).1 h3)
            have hzt := hi.2.1
            rw [htd] at hzt
            rcases List.mem_append.1 hzt with hz | hz
            · exfalso
              have hpr : p ∉ rest.reverse := by
                rw [htd, List.nodup_append] at hnd
                exact fun j => hnd.2.2 p j p (by simp) rfl
              have h4 := hi.2.2
              rw [htd, List.idxOf_append, List.idxOf_append, if_neg hpr, if_pos hz] at h4
              have := List.idxOf_lt_length_of_mem hz
              omega
            · rcases List.mem_cons.1 hz with hz | hz
              · exact (e hz).elim
              · simpa using hz
          exact hxt (s.clo z x (s.all z hz) ⟨h2, h1⟩)
      · intro k
        have k2 : Rch nx (fun x => x ∈ tt) x p := Mu.avoid (fun a b => s.clo a b) (fun q => hpt (s.clo x p q k.symm)) k.symm
        exact Rch.turn (nx := nr) (nr := nx) (fun a b => (hr b a).symm) k2
    refine ⟨fun x y hx hm => ?_, fun q hq => ?_, fun v hv2 a ha b => ?_⟩
    · rcases List.mem_append.1 hx with hx | hx
      · exact List.mem_append_left _ (s.clo x y hx hm)
      · exact List.mem_append_right _ ((hcl y).2 (((hcl x).1 hx).trans hm))
    · rcases List.mem_append.1 hq with hq | hq
      · exact List.mem_append_left _ (s.all q hq)
      · rw [List.mem_singleton] at hq
        subst hq
        exact List.mem_append_right _ ((hcl q).2 (Mu.refl nx q))
    · rcases List.mem_append.1 hv2 with hv2 | hv2
      · exact s.cls v hv2 a ha b
      · rw [List.mem_singleton] at hv2
        subst hv2
        rw [hcl b]
        have := (hcl a).1 ha
        exact ⟨fun k => this.symm.trans k, fun k => this.trans k⟩
/-- The classes, as they are sorted. -/
structure Cls (nx : Nat → List Nat) (P : Nat) (LL : List (List Nat)) : Prop where
  ne : ∀ l ∈ LL, l ≠ []
  cls : ∀ l ∈ LL, ∀ a ∈ l, ∀ b, b ∈ l ↔ Mu nx a b
  lt : ∀ l ∈ LL, ∀ a ∈ l, a < P
  all : ∀ p, p < P → ∃ l ∈ LL, p ∈ l
  nd : LL.flatten.Nodup
  sor : ∀ l ∈ LL, l.Pairwise (· ≤ ·)
theorem cls_of {nx nr : Nat → List Nat} {P : Nat} {t : List Nat} {us LL : List (List Nat)} (hr : ∀ a b, b ∈ nr a ↔ a ∈ nx b) (hn : ∀ a b, b ∈ nx a → a < P ∧ b < P) (ht : VL nx (fun _ => False) (List.range P) t)
    (hg : GR nr t.reverse us.flatten us) (hL : GLs P us LL) : Cls nx P LL := by
  have htb := VL.bound ht P (fun q hq => List.mem_range.1 hq) (fun q _ x hx => (hn q x hx).2)
  have s := scs_of hr (fun a b h => (hn a b h).1) ht hg ⟨[], by simp⟩ (fun p hp => htb p (by simpa using hp))
  have hm : ∀ l ∈ LL, ∃ u ∈ us, ∀ x, x ∈ l ↔ x ∈ u := fun l hl => by
    obtain ⟨u, hu, rfl⟩ := List.mem_map.1 (hL.perm.mem_iff.1 hl)
    exact ⟨u, hu, fun x => mem_sortN⟩
  refine ⟨fun l hl => (hL.ne l hl).1, fun l hl a ha b => ?_, fun l hl a ha => (hL.ne l hl).2.2.1 a ha, fun p hp => ?_, ?_, fun l hl => (hL.ne l hl).2.1⟩
  · obtain ⟨u, hu, h⟩ := hm l hl
    rw [h b]
    exact s.cls u hu a ((h a).1 ha) b
  · have hpt : p ∈ t := (ht.takes p (List.mem_range.2 hp)).resolve_left id
    have := s.all p (by simpa using hpt)
    obtain ⟨u, hu, hpu⟩ := List.mem_flatten.1 this
    exact ⟨sortN u, hL.perm.mem_iff.2 (List.mem_map.2 ⟨u, hu, rfl⟩), mem_sortN.2 hpu⟩
  · have h1 : LL.flatten.Perm us.flatten := (hL.perm.flatten).trans (by
      clear hL hg s hm
      induction us with
      | nil => exact List.Perm.refl _
      | cons u us ih =>
        rw [List.map_cons, List.flatten_cons, List.flatten_cons]
        exact List.Perm.append (List.mergeSort_perm u _) ih)
    exact h1.nodup_iff.2 hg.nodup
end Go.Proofs.Ytjjkabgbcflipaa
namespace Go.Proofs.Ytjjkabgbcflipaa
open Go Go.Proofs Go.RowKit GM

theorem len_sub : ∀ (a b : List (List Nat)), a.Nodup → (∀ x ∈ a, x ∈ b) → a.length ≤ b.length
  | [], _, _, _ => Nat.zero_le _
  | x :: a, b, h, hs => by
    rw [List.nodup_cons] at h
    have := len_sub a (b.erase x) h.2 (fun y hy => by
      have hne : y ≠ x := fun e => h.1 (e ▸ hy)
      exact (List.mem_erase_of_ne hne).2 (hs y (by simp [hy])))
    have hx := hs x (by simp)
    rw [List.length_erase_of_mem hx] at this
    have := List.length_pos_of_mem hx
    rw [List.length_cons]
    omega
theorem ex_min {S : Nat → Prop} (m : Nat → Nat) : ∀ (k x : Nat), m x ≤ k → S x → ∃ x, S x ∧ ∀ y, S y → m x ≤ m y
  | 0, x, h, hx => ⟨x, hx, fun y _ => by omega⟩
  | k + 1, x, h, hx => by
    by_cases g : ∃ y, S y ∧ m y < m x
    · obtain ⟨y, hy, hm⟩ := g
      exact ex_min m k y (by omega) hy
    · exact ⟨x, hx, fun y hy => Nat.le_of_not_lt fun q => g ⟨y, hy, q⟩⟩
theorem flat_apart : ∀ L : List (List Nat), L.flatten.Nodup → L.Pairwise fun a b => ∀ x ∈ a, x ∉ b
  | [], _ => .nil
  | a :: L, h => by
    rw [List.flatten_cons, List.nodup_append] at h
    refine .cons (fun b hb x hx hxb => h.2.2 x hx x (List.mem_flatten.2 ⟨b, hb, hxb⟩) rfl) (flat_apart L h.2.1)
section
variable {nx : Nat → List Nat} {P : Nat} {LL : List (List Nat)}
theorem Cls.same (C : Cls nx P LL) {l m : List Nat} (hl : l ∈ LL) (hm : m ∈ LL) {p : Nat} (h1 : p ∈ l) (h2 : p ∈ m) : l = m := by
  refine Classical.byContradiction fun hne => ?_
  have hnd := flat_apart LL C.nd
  have key : ∀ L : List (List Nat), (L.Pairwise fun a b => ∀ x ∈ a, x ∉ b) → l ∈ L → m ∈ L → False := by
    intro L hL
    induction hL with
    | nil => intro h; simp at h
    | @cons a L ha _ ih =>
      intro hl hm
      rcases List.mem_cons.1 hl with e1 | e1
      · rcases List.mem_cons.1 hm with e2 | e2
        · exact hne (e1.trans e2.symm)
        · exact ha m e2 p (e1 ▸ h1) h2
      · rcases List.mem_cons.1 hm with e2 | e2
        · exact ha l e1 p (e2 ▸ h2) h1
        · exact ih e1 e2
  exact key LL hnd hl hm
theorem Cls.nodup (C : Cls nx P LL) : LL.Nodup := by
  have hnd := flat_apart LL C.nd
  have hne := C.ne
  have key : ∀ L : List (List Nat), (L.Pairwise fun a b => ∀ x ∈ a, x ∉ b) → (∀ l ∈ L, l ≠ []) → L.Nodup := by
    intro L hL
    induction hL with
    | nil => intro _; simp
    | @cons a L ha _ ih =>
      intro h
      rw [List.nodup_cons]
      refine ⟨fun k => ?_, ih fun l hl => h l (by simp [hl])⟩
      obtain ⟨x, hx⟩ := List.exists_mem_of_ne_nil a (h a (by simp))
      exact ha a k x hx hx
  exact key LL hnd hne
/-- What is numbered so far. -/
structure NumS (nx : Nat → List Nat) (LL : List (List Nat)) (N : Nat → Int) (ch : List (List Nat)) : Prop where
  sub : ∀ l ∈ ch, l ∈ LL
  nd : ch.Nodup
  num : ∀ p, (∃ j l, ch[j]? = some l ∧ p ∈ l ∧ N p = ((j : Nat) : Int)) ∨ ((∀ l ∈ ch, p ∉ l) ∧ N p = -1)
  edge : ∀ j l, ch[j]? = some l → ∀ a ∈ l, ∀ b ∈ nx a, b ∈ l ∨ (0 ≤ N b ∧ N b < ((j : Nat) : Int))
theorem NumS.zero : NumS nx LL (compN nx LL 0) [] := ⟨by simp, by simp, fun p => .inr ⟨by simp, rfl⟩, by simp⟩
theorem NumS.uni (C : Cls nx P LL) {N : Nat → Int} {ch : List (List Nat)} (s : NumS nx LL N ch) {j : Nat} {l : List Nat} (hj : ch[j]? = some l) {p : Nat} (hp : p ∈ l) : N p = (j : Int) := by
  have hl : l ∈ ch := List.mem_of_getElem? hj
  rcases s.num p with ⟨i, m, hi, hm, e⟩ | ⟨h, -⟩
  · have : l = m := C.same (s.sub l hl) (s.sub m (List.mem_of_getElem? hi)) hp hm
    subst this
    have h1 := (List.getElem?_eq_some_iff.1 hi).1
    have e2 : i = j := by
      rw [← hj] at hi
      exact (List.getElem?_inj h1 s.nd).1 hi
    rw [e, e2]
  · exact (h l hl hp).elim
/-- While a point has no number, some class is free. -/
theorem NumS.free (C : Cls nx P LL) (hn : ∀ a b, b ∈ nx a → a < P ∧ b < P) {N : Nat → Int} {ch : List (List Nat)} (s : NumS nx LL N ch) {p : Nat} (hp : p < P) (h0 : N p = -1) : ∃ g ∈ LL, freeG nx N g = true := by
  classical
  obtain ⟨x, ⟨hx, hx0⟩, hmin⟩ := ex_min (S := fun x => x < P ∧ N x = -1) (fun x => cntT (fun y => decide (Rch nx (fun _ => False) x y)) P) _ p (Nat.le_refl _) ⟨hp, h0⟩
  obtain ⟨g, hg, hxg⟩ := C.all x hx
  refine ⟨g, hg, ?_⟩
  have hneg : ∀ a ∈ g, N a = -1 := fun a ha => by
    rcases s.num a with ⟨i, m, hi, hm, e⟩ | ⟨-, e⟩
    · have : g = m := C.same hg (s.sub m (List.mem_of_getElem? hi)) ha hm
      subst this
      have := s.uni C hi hxg
      omega
    · exact e
  refine freeG_yes ?_ ?_
  · have hne := C.ne g hg
    have hm : atD g 0 ∈ g := atD_mem (List.length_pos_iff.2 hne)
    rw [hneg _ hm]
    omega
  · intro q hq
    obtain ⟨a, ha, hqa⟩ := List.mem_flatMap.1 hq
    unfold okN
    rw [Bool.or_eq_true, List.contains_iff_mem, decide_eq_true_iff]
    by_cases hqg : q ∈ g
    · exact .inl hqg
    · refine .inr ?_
      obtain ⟨haP, hqP⟩ := hn a q hqa
      rcases s.num q with ⟨i, m, hi, hm, e⟩ | ⟨-, e⟩
      · omega
      · exfalso
        have hxa := (C.cls g hg x hxg a).1 ha
        have hxq : Rch nx (fun _ => False) x q := .step hxa.1 hqa id
        have hle := hmin q ⟨hqP, e⟩
        have hlt : cntT (fun y => decide (Rch nx (fun _ => False) q y)) P < cntT (fun y => decide (Rch nx (fun _ => False) x y)) P := by
          refine cntT_lt P (y := x) (fun z _ h => ?_) hx (by simpa using Rch.refl id) ?_
          · rw [decide_eq_true_iff] at h ⊢
            exact hxq.trans h
          · rw [decide_eq_false_iff_not]
            exact fun k => hqg ((C.cls g hg x hxg q).2 ⟨hxq, k⟩)
        omega
theorem NumS.next (C : Cls nx P LL) {N : Nat → Int} {ch : List (List Nat)} {g : List Nat} (s : NumS nx LL N ch) (hg : g ∈ LL) (hf : freeG nx N g = true) : NumS nx LL (fun p => if p ∈ g then (ch.length : Int) else N p) (ch ++ [g]) ∧ ∀ p ∈ g, N p = -1 := by
  unfold freeG at hf
  rw [Bool.and_eq_true, decide_eq_true_iff, List.all_eq_true, head_at] at hf
  obtain ⟨h1, h2⟩ := hf
  have hm : atD g 0 ∈ g := atD_mem (List.length_pos_iff.2 (C.ne g hg))
  have hneg : ∀ a ∈ g, N a = -1 := fun a ha => by
    rcases s.num a with ⟨i, m, hi, hm2, e⟩ | ⟨-, e⟩
    · have : g = m := C.same hg (s.sub m (List.mem_of_getElem? hi)) ha hm2
      subst this
      have := s.uni C hi hm
      omega
    · exact e
  have hno : g ∉ ch := fun k => by
    obtain ⟨j, hj⟩ := List.getElem?_of_mem k
    have := s.uni C hj hm
    have := hneg _ hm
    omega
  have hdis : ∀ l ∈ ch, ∀ a ∈ l, a ∉ g := fun l hl a ha k => hno (by rw [← C.same (s.sub l hl) hg ha k]; exact hl)
  refine ⟨⟨fun l hl => ?_, ?_, fun p => ?_, fun j l hj a ha b hb => ?_⟩, hneg⟩
  · rcases List.mem_append.1 hl with hl | hl
    · exact s.sub l hl
    · rw [List.mem_singleton] at hl; subst hl; exact hg
  · rw [List.nodup_append]
    exact ⟨s.nd, by simp, fun a ha b hb e => by rw [List.mem_singleton] at hb; rw [e, hb] at ha; exact hno ha⟩
  · by_cases hp : p ∈ g
    · refine .inl ⟨ch.length, g, by simp, hp, by simp only [if_pos hp]⟩
    · rcases s.num p with ⟨j, l, hj, hl, e⟩ | ⟨h, e⟩
      · refine .inl ⟨j, l, ?_, hl, by simp only [if_neg hp]; exact e⟩
        rw [List.getElem?_append_left (List.getElem?_eq_some_iff.1 hj).1]; exact hj
      · refine .inr ⟨fun l hl => ?_, by simp only [if_neg hp]; exact e⟩
        rcases List.mem_append.1 hl with hl | hl
        · exact h l hl
        · rw [List.mem_singleton] at hl; subst hl; exact hp
  · by_cases hjl : j < ch.length
    · rw [List.getElem?_append_left hjl] at hj
      rcases s.edge j l hj a ha b hb with k | ⟨k1, k2⟩
      · exact .inl k
      · have hbg : b ∉ g := fun q => by have := hneg b q; omega
        simp only [if_neg hbg]
        exact .inr ⟨k1, k2⟩
    · have hj2 := (List.getElem?_eq_some_iff.1 hj).1
      rw [List.length_append, List.length_singleton] at hj2
      obtain rfl : j = ch.length := by omega
      rw [List.getElem?_append_right (Nat.le_refl _)] at hj
      simp at hj
      subst hj
      have := h2 b (List.mem_flatMap.2 ⟨a, ha, hb⟩)
      unfold okN at this
      rw [Bool.or_eq_true, List.contains_iff_mem, decide_eq_true_iff] at this
      rcases this with k | k
      · exact .inl k
      · have hbg : b ∉ g := fun q => by have := hneg b q; omega
        simp only [if_neg hbg]
        refine .inr ⟨k, ?_⟩
        rcases s.num b with ⟨i, m, hi, -, e⟩ | ⟨-, e⟩
        · rw [e]
          have := (List.getElem?_eq_some_iff.1 hi).1
          omega
        · omega
theorem NumS.covers (C : Cls nx P LL) {N : Nat → Int} {ch : List (List Nat)} (s : NumS nx LL N ch) (h : LL.length ≤ ch.length) {p : Nat} (hp : p < P) : ∃ j l, ch[j]? = some l ∧ p ∈ l ∧ N p = ((j : Nat) : Int) := by
  rcases s.num p with k | ⟨k, -⟩
  · exact k
  · exfalso
    obtain ⟨l, hl, hpl⟩ := C.all p hp
    have hlc : l ∉ ch := fun q => k l q hpl
    have := len_sub (l :: ch) LL (List.nodup_cons.2 ⟨hlc, s.nd⟩) (fun x hx => by
      rcases List.mem_cons.1 hx with e | e
      · rw [e]; exact hl
      · exact s.sub x e)
    rw [List.length_cons] at this
    omega
theorem NumS.open_ (C : Cls nx P LL) {N : Nat → Int} {ch : List (List Nat)} (s : NumS nx LL N ch) (h : ch.length < LL.length) : ∃ p, p < P ∧ N p = -1 := by
  refine Classical.byContradiction fun hno => ?_
  have := len_sub LL ch C.nodup (fun l hl => by
    obtain ⟨p, hp⟩ := List.exists_mem_of_ne_nil l (C.ne l hl)
    rcases s.num p with ⟨j, m, hj, hm, -⟩ | ⟨-, e⟩
    · have hmc := List.mem_of_getElem? hj
      rw [C.same hl (s.sub m hmc) hp hm]; exact hmc
    · exact (hno ⟨p, C.lt l hl p hp, e⟩).elim)
  omega
/-- All steps. -/
theorem nums_of (C : Cls nx P LL) (hn : ∀ a b, b ∈ nx a → a < P ∧ b < P) : ∀ k, k ≤ LL.length → ∃ ch, ch.length = k ∧ NumS nx LL (compN nx LL k) ch
  | 0, _ => ⟨[], rfl, NumS.zero⟩
  | k + 1, hk => by
    obtain ⟨ch, hch, s⟩ := nums_of C hn k (by omega)
    obtain ⟨p, hp, h0⟩ := s.open_ C (by omega)
    obtain ⟨g, hg, hf⟩ := s.free C hn hp h0
    have hfi : ∃ g', LL.find? (freeG nx (compN nx LL k)) = some g' := by
      cases h : LL.find? (freeG nx (compN nx LL k)) with
      | none => exact ((List.find?_eq_none.1 h g hg) hf).elim
      | some g' => exact ⟨g', rfl⟩
    obtain ⟨g', hg'⟩ := hfi
    have h1 := List.find?_some hg'
    have h2 := List.mem_of_find?_eq_some hg'
    have h3 := (s.next C h2 h1).1
    refine ⟨ch ++ [g'], by rw [List.length_append, hch]; rfl, ?_⟩
    have e : compN nx LL (k + 1) = fun p => if p ∈ g' then (ch.length : Int) else compN nx LL k p := by
      funext p
      rw [compN_succ, hch]
      unfold putN freeL
      rw [hg']
      rfl
    rw [e]
    exact h3
end
end Go.Proofs.Ytjjkabgbcflipaa
namespace Go.Proofs.Ytjjkabgbcflipaa
open Go Go.Proofs Go.RowKit GM

theorem DomT.dm {nx : Nat → List Nat} {r P : Nat} {t : List Nat} {T : Nat → List Nat} (h : DomT nx r P t T) {p q : Nat} (hq : q ∈ t) (hp : p ∈ t) : (¬ (q = p ∨ q ∈ T p)) ↔ (p ≠ q ∧ Dm nx r q p) := by
  have h1 := (h.ord.mem q).1 hq
  obtain ⟨a, ha, h1⟩ := h1
  rw [List.mem_singleton] at ha
  subst ha
  have h2 := (h.wo p hp).mem q
  constructor
  · intro k
    refine ⟨fun e => k (.inl e.symm), h1, fun g => k (.inr (h2.2 ⟨a, by simp, g⟩))⟩
  · rintro ⟨k1, -, k2⟩ (k | k)
    · exact k1 k.symm
    · obtain ⟨b, hb, g⟩ := h2.1 k
      rw [List.mem_singleton] at hb
      subst hb
      exact k2 g
theorem DomT.parId {nx : Nat → List Nat} {r P : Nat} {t : List Nat} {T : Nat → List Nat} (h : DomT nx r P t T) (q : Nat) :
    (parF t T t q = -1 ∧ ∀ e, e ≠ q → ¬ Dm nx r q e) ∨ ∃ p : Nat, p < P ∧ parF t T t q = (p : Int) ∧ IsId nx r q p := by
  unfold parF
  by_cases hq : q ∈ t
  · rw [if_pos hq]
    cases hf : t.find? (fun p => !(q == p || (T p).contains q)) with
    | none =>
      refine .inl ⟨rfl, fun e he g => ?_⟩
      have het : e ∈ t := (h.ord.mem e).2 ⟨r, by simp, g.reach⟩
      have := List.find?_eq_none.1 hf e het
      have hk := (h.dm hq het).2 ⟨he, g⟩
      simp only [Bool.not_eq_true, Bool.not_eq_false', Bool.or_eq_true, beq_iff_eq, List.contains_iff_mem] at this
      exact hk this
    | some p =>
      obtain ⟨hp, u, v, ht, hu⟩ := List.find?_eq_some_iff_append.1 hf
      have hpt : p ∈ t := by rw [ht]; simp
      have hpq : p ≠ q ∧ Dm nx r q p := (h.dm hq hpt).1 (by
        intro k
        simp only [Bool.not_eq_true', Bool.or_eq_false_iff, beq_eq_false_iff_ne] at hp
        rcases k with k | k
        · exact hp.1 k
        · have := hp.2; simp [k] at this)
      refine .inr ⟨p, h.lt p hpt, rfl, first_id h.ord ht hpq (fun e he k => ?_)⟩
      have het : e ∈ t := by rw [ht]; simp [he]
      have h3 := hu e he
      have h4 := (h.dm hq het).2 k
      simp only [Bool.not_not, Bool.or_eq_true, beq_iff_eq, List.contains_iff_mem] at h3
      exact h4 h3
  · rw [if_neg hq]
    refine .inl ⟨rfl, fun e he g => hq ((h.ord.mem q).2 ⟨r, by simp, g.1⟩)⟩
theorem DomT.in_of {nx : Nat → List Nat} {r P : Nat} {t : List Nat} {T : Nat → List Nat} (h : DomT nx r P t T) {x : Nat} (g : Rch nx (fun _ => False) r x) : x < P := h.lt x ((h.ord.mem x).2 ⟨r, by simp, g⟩)
/-- Both answers are the same. -/
theorem DomT.eq {nx : Nat → List Nat} {r P : Nat} {t : List Nat} {T : Nat → List Nat} (h : DomT nx r P t T) {f : Nat → Nat → Bool} (hd : ∀ x e, x < P → e < P → (f x e = true ↔ Dm nx r x e)) {q : Nat} (hq : q < P) : immF f P q P = parF t T t q := by
  rcases immF_id hd (fun x g => h.in_of g) hq with ⟨h1, h2⟩ | ⟨p, -, h1, h2⟩
  · rcases h.parId q with ⟨h3, -⟩ | ⟨s, -, -, h4⟩
    · rw [h1, h3]
    · exact (h2 s h4.1 h4.2.1).elim
  · rcases h.parId q with ⟨-, h4⟩ | ⟨s, -, h3, h4⟩
    · exact (h4 p h2.1 h2.2.1).elim
    · rw [h1, h3, h2.unique h4]
end Go.Proofs.Ytjjkabgbcflipaa
namespace Go.Proofs.Ytjjkabgbcflipaa
open Go Go.Proofs Go.RowKit Go.Shelf GM

attribute [local go_sem] Oper.semAt_some

/-- A row of numbers that can be read, perhaps empty. -/
def IRow (W : World) (v : Value) (l : List Int) : Prop := ∃ ao c, v = .slice ao l.length c ∧ (l = [] ∨ ∃ g, ao = some ⟨g, 0, none⟩ ∧ g < W.heap.size ∧ ∀ k, k < l.length → W.cell? ⟨g, k, none⟩ = some (.int .i64 (l.getD k 0)))
theorem IRow.below {W W' : World} {v : Value} {l : List Int} (h : IRow W v l) (hb : Below W.heap.size W W') : IRow W' v l := by
  obtain ⟨ao, c, e, h⟩ := h
  refine ⟨ao, c, e, h.imp_right ?_⟩
  rintro ⟨g, e1, h1, h2⟩
  exact ⟨g, e1, Nat.lt_of_lt_of_le h1 hb.size, fun k hk => (hb.cell (p := ⟨g, k, none⟩) h1).trans (h2 k hk)⟩
theorem IRow.nil (W : World) : IRow W nilS [] := ⟨none, 0, rfl, .inl rfl⟩
theorem IRow.of_nm {g P : Nat} {W : World} {f : Nat → Int} (h : NmAt W g P f) : IRow W (.slice (some ⟨g, 0, none⟩) P P) ((List.range P).map f) := by
  refine ⟨some ⟨g, 0, none⟩, P, by simp, .inr ⟨g, rfl, h.lt, fun k hk => ?_⟩⟩
  have hk' : k < P := by simpa using hk
  rw [h.nc k hk', List.getD_eq_getElem?_getD, List.getElem?_map, List.getElem?_range hk']
  rfl
theorem eq_row {W : World} {v u : Value} {l : List Int} (h : IRow W v l) (h' : IRow W u l) (hl : l.length ≤ 100000) :
    Calls Try.prog 27 #[v, u] W fun e w' => e = .returned (.bool true) ∧ Below W.heap.size W w' := by
  obtain ⟨a1, c1, rfl, h⟩ := h
  obtain ⟨a2, c2, rfl, h'⟩ := h'
  rcases h with h | ⟨g1, rfl, -, h1⟩
  · subst h
    refine (Try.slices_Equal_int_empty a1 a2 c1 0 c2 W (by omega)).mono ?_
    rintro e w' ⟨rfl, rfl⟩
    exact ⟨rfl, Below.refl _ _⟩
  · rcases h' with h' | ⟨g2, rfl, -, h2⟩
    · subst h'
      refine (Try.slices_Equal_int_empty (some ⟨g1, 0, none⟩) a2 c1 0 c2 W (by omega)).mono ?_
      rintro e w' ⟨rfl, rfl⟩
      exact ⟨rfl, Below.refl _ _⟩
    · refine (Try.slices_Equal_int g1 0 l.length c1 g2 0 l.length c2 l l W (Nat.le_refl _) (Nat.le_refl _) (by omega) (by omega) (fun j hj => by rw [Nat.zero_add]; exact h1 j hj) (fun j hj => by rw [Nat.zero_add]; exact h2 j hj)).mono ?_
      rintro e w' ⟨rfl, q, rfl⟩
      exact ⟨by simp, below_drewN (Below.refl _ _) _⟩
/-- The immediate dominator, as a number. -/
noncomputable def idF (nx : Nat → List Nat) (r q : Nat) : Int := by
  classical
  exact if h : ∃ p, IsId nx r q p then (Classical.choose h : Nat) else -1
theorem idF_some {nx : Nat → List Nat} {r q p : Nat} (h : IsId nx r q p) : idF nx r q = (p : Int) := by
  unfold idF
  have hx : ∃ p, IsId nx r q p := ⟨p, h⟩
  rw [dif_pos hx]
  rw [h.unique (Classical.choose_spec hx)]
theorem idF_none {nx : Nat → List Nat} {r q : Nat} (h : ∀ e, e ≠ q → ¬ Dm nx r q e) : idF nx r q = -1 := by
  unfold idF
  rw [dif_neg]
  rintro ⟨p, hp⟩
  exact h p hp.1 hp.2.1
theorem DomT.id {nx : Nat → List Nat} {r P : Nat} {t : List Nat} {T : Nat → List Nat} (h : DomT nx r P t T) (q : Nat) : parF t T t q = idF nx r q := by
  rcases h.parId q with ⟨h1, h2⟩ | ⟨p, -, h1, h2⟩
  · rw [h1, idF_none h2]
  · rw [h1, idF_some h2]
theorem imm_id {nx : Nat → List Nat} {r P q : Nat} {f : Nat → Nat → Bool} (hd : ∀ x e, x < P → e < P → (f x e = true ↔ Dm nx r x e)) (hP : ∀ x, Rch nx (fun _ => False) r x → x < P) (hq : q < P) : immF f P q P = idF nx r q := by
  rcases immF_id hd hP hq with ⟨h1, h2⟩ | ⟨p, -, h1, h2⟩
  · rw [h1, idF_none h2]
  · rw [h1, idF_some h2]
theorem nxF_lt {P : Nat} {x : Int} {E : List Ed} (h : ckG P x E = 0) {b c : Nat} (hc : c ∈ nxF P E b) : c < P := by
  obtain ⟨-, -, -, hp⟩ := ckG_ok h
  by_cases hb : b < P
  · obtain ⟨j, hj, e1, e2⟩ := (nx_mem (fun d => d.f) (fun d => d.t) E hb).1 hc
    have := isPt_true (hp j hj).2
    omega
  · have : nxF P E b = [] := by unfold nxF nxt; rw [lsN_out _ _ hb]; rfl
    rw [this] at hc; simp at hc
theorem rch_lt {P : Nat} {x : Int} {E : List Ed} (h : ckG P x E = 0) {r q : Nat} (hr : r < P) {B : Nat → Prop} (g : Rch (nxF P E) B r q) : q < P := by
  cases g with
  | refl _ => exact hr
  | step _ h1 _ => exact nxF_lt h h1
theorem nxF_turn (P : Nat) (E : List Ed) : nxF P (E.map turn) = nxB P E := by
  have h1 : esN (fun d => d.t) (E.map turn) = esN (fun d => d.f) E := by unfold esN; rw [List.map_map]; rfl
  have h2 : lsN P (fun d => d.f) (E.map turn) = lsN P (fun d => d.t) E := by
    unfold lsN
    rw [List.length_map]
    apply List.map_congr_left
    intro p _
    apply List.filter_congr
    intro i hi
    rw [edD_turn (List.mem_range.1 hi)]
    rfl
  unfold nxF nxB
  rw [h1, h2]
theorem ckG_turn {P : Nat} {x : Int} {E : List Ed} (h : ckG P x E = 0) : ckG P x (E.map turn) = 0 := by
  obtain ⟨h1, h2, h3, h4⟩ := ckG_ok h
  obtain ⟨-, -, h5⟩ := ckG_pos h
  unfold ckG
  rw [if_neg (by omega), h5, if_neg (by simp), List.length_map, if_neg (by omega), if_pos]
  unfold ckEs
  rw [List.all_eq_true]
  intro d hd
  obtain ⟨d0, h0, rfl⟩ := List.mem_map.1 hd
  obtain ⟨j, hj, rfl⟩ := List.getElem_of_mem h0
  have h6 := h4 j hj
  rw [edD_eq hj] at h6
  show (isPt P E[j].t && isPt P E[j].f) = true
  rw [h6.1, h6.2]; rfl
noncomputable def domL (nx : Nat → List Ed → Nat → List Nat) (rt : Nat) (n x : Int) (E : List Ed) : List Int := if ckG n x E = 0 then (List.range n.toNat).map (idF (nx n.toNat E) rt) else []
theorem domL_len (nx : Nat → List Ed → Nat → List Nat) (rt : Nat) (n x : Int) (E : List Ed) : (domL nx rt n x E).length ≤ 100000 := by
  unfold domL
  split
  · rename_i h
    obtain ⟨h1, h2, -⟩ := ckG_pos h
    simp; omega
  · simp
/-- What the reference's Dominators answers. -/
def RDomsQ (nx : Nat → List Ed → Nat → List Nat) (rt : Nat) (n x : Int) (E : List Ed) (w : World) : Ending → World → Prop := fun e w' => Below w.heap.size w w' ∧ ∃ v, e = .returned (.tuple #[v, .int .i64 (ckG n x E : Nat)]) ∧ IRow w' v (domL nx rt n x E)
section
variable {A : Nat → Prop} (n x : Int) (ao : Option Addr) (c : Nat) (E : List Ed) (w : World) (hr : ERow A w ao c E)
include hr
theorem dom_u : Calls Try.prog 28 #[.agg #[.int .i64 n, .int .i64 x, .slice ao E.length c]] w (RDomsQ nxF 0 n x E w) := by
  refine (Dominators_any n x ao c E w hr).mono ?_
  rintro e w' ⟨hb, ⟨h, rfl⟩ | ⟨h, g, t, T, rfl, hd, hg, -⟩⟩
  · exact ⟨hb, _, rfl, by unfold domL; rw [if_neg h]; exact IRow.nil _⟩
  · refine ⟨hb, _, by rw [h]; rfl, ?_⟩
    unfold domL; rw [if_pos h]
    have e := IRow.of_nm hg
    rw [show parF t T t = idF (nxF n.toNat E) 0 from funext fun q => hd.id q] at e
    exact e
theorem pdom_u : Calls Try.prog 30 #[.agg #[.int .i64 n, .int .i64 x, .slice ao E.length c]] w (RDomsQ nxB x.toNat n x E w) := by
  refine (Postdominators_any n x ao c E w hr).mono ?_
  rintro e w' ⟨hb, ⟨h, rfl⟩ | ⟨h, g, t, T, rfl, hd, hg, -⟩⟩
  · exact ⟨hb, _, rfl, by unfold domL; rw [if_neg h]; exact IRow.nil _⟩
  · refine ⟨hb, _, by rw [h]; rfl, ?_⟩
    unfold domL; rw [if_pos h]
    have e := IRow.of_nm hg
    rw [show parF t T t = idF (nxB n.toNat E) x.toNat from funext fun q => hd.id q] at e
    exact e
end
end Go.Proofs.Ytjjkabgbcflipaa
