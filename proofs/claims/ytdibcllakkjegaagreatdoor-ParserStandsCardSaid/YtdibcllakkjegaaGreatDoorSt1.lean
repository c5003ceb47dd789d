import Derived.Test.YtdibcllakkjegaaGreatDoorCut6
import Derived.Test.YtdibcllakkjegaaGreatDoorCut5
import Derived.Test.YtdibcllakkjegaaGreatDoorCut4
import Derived.Test.YtdibcllakkjegaaGreatDoorCut32
import Derived.Shelf.Strings.Prefix
import Derived.Test.YtdibcllakkjegaaGreatDoorCut1

set_option linter.unusedVariables false
/-
  Mathematics of tokens: texts, tokens behind each other, comments, lines, joined texts.
-/
set_option linter.unusedVariables false
namespace Go.Proofs.YtdibcllakkjegaaGreatDoor
open Go Go.Proofs Go.RowKit

theorem sq_ends : ∀ (f a : Nat) (l : List UInt8), l.length < f → ((sq f a l).2.2 = 0 → (sq f a l).1 ≠ []) ∧ ((sq f a l).2.2 ≠ 0 → (sq f a l).2.1 < a + l.length)
  | 0, _, _, h => by omega
  | f + 1, a, l, h => by
    rcases sq_cases f a l with ⟨h0, h1, e⟩ | ⟨k, m, hk, hm, hne, hl, -, he, e⟩ | ⟨k, x, z, hk, hm, hx, hl, -, ht, he, -, -, e⟩
    · rw [e]; exact ⟨fun _ => by simp, fun q => absurd rfl q⟩
    · rw [e]
      have : 0 < m.length := List.length_pos_iff.2 hne
      exact ⟨fun q => absurd q he, fun _ => by show a + k < _; omega⟩
    · have hp : 0 < x.length := List.length_pos_iff.2 hx
      obtain ⟨i1, i2⟩ := sq_ends f (a + k + x.length) z (by omega)
      rw [e]
      exact ⟨fun _ => by simp, fun q => by have := i2 q; show (sq f (a + k + x.length) z).2.1 < _; omega⟩
end Go.Proofs.YtdibcllakkjegaaGreatDoor

/-
  What Scan, Strip and Join answer, by the mathematics of tokens.
-/
set_option linter.unusedSimpArgs false
set_option linter.unusedVariables false
namespace Go.Proofs.YtdibcllakkjegaaGreatDoor
open Go Go.Proofs Go.RowKit

theorem scR_bad {s : ByteArray} (h : s.size ≤ 65536) (he : (scR s).2.2 ≠ 0) : (sqR (bytes s)).2.2 ≠ 0 ∧ scR s = ([], (sqR (bytes s)).2) ∧ (scR s).2.1 < s.size := by
  rw [scR_sq h] at he ⊢
  by_cases q : (sqR (bytes s)).2.2 = 0
  · rw [if_pos q] at he
    exact absurd q he
  · rw [if_neg q] at he ⊢
    have := (sq_ends _ 0 (bytes s) (Nat.lt_succ_self _)).2 q
    rw [bytes_length, Nat.zero_add] at this
    exact ⟨q, rfl, this⟩

end Go.Proofs.YtdibcllakkjegaaGreatDoor

/-
  parser: procedures and records end where they end; two programs one behind the other.
-/
set_option linter.unusedSimpArgs false
set_option linter.unusedVariables false
namespace Go.Proofs.YtdibcllakkjegaaGreatDoor
open Go Go.Proofs Go.RowKit

theorem op_end (i : Nat) (a : Int) : pOp i [tE a] = false := by
  unfold pOp pOps
  split <;> rfl
section
variable {α β : Type} {f : Nat}
end
end Go.Proofs.YtdibcllakkjegaaGreatDoor

/-
  parser: expressions and conditions before a token that does not go on with them; parentheses and signs around them.
-/
set_option linter.unusedSimpArgs false
set_option linter.unusedVariables false
namespace Go.Proofs.YtdibcllakkjegaaGreatDoor
open Go Go.Proofs Go.RowKit

theorem tl_end {V : List Tk} {v : Tk} {a : Int} : pTl (v :: V ++ [tE a]) = V ++ [tE a] := tl_cons (by simp)
end Go.Proofs.YtdibcllakkjegaaGreatDoor

/-
  parser: how many nodes are read, and where they stand.
-/
set_option linter.unusedSimpArgs false
set_option linter.unusedVariables false
namespace Go.Proofs.YtdibcllakkjegaaGreatDoor
open Go Go.Proofs Go.RowKit

mutual
def sz : Syn → Nat
  | .mk _ _ _ _ ks => 1 + szL ks
def szL : List Syn → Nat
  | [] => 0
  | x :: xs => sz x + szL xs
end
theorem szL_app : ∀ a b : List Syn, szL (a ++ b) = szL a + szL b
  | [], b => by rw [List.nil_append, szL, Nat.zero_add]
  | x :: a, b => by rw [List.cons_append, szL, szL, szL_app a b, Nat.add_assoc]
mutual
def allN (N : Int → Int → ByteArray → Prop) : Syn → Prop
  | .mk k a t _ ks => N k a t ∧ allL N ks
def allL (N : Int → Int → ByteArray → Prop) : List Syn → Prop
  | [] => True
  | x :: xs => allN N x ∧ allL N xs
end
theorem allL_app {N : Int → Int → ByteArray → Prop} : ∀ {a b : List Syn}, allL N a → allL N b → allL N (a ++ b)
  | [], b, _, h => h
  | x :: a, b, h, g => by
    rw [allL] at h
    rw [List.cons_append, allL]
    exact ⟨h.1, allL_app h.2 g⟩
theorem kids_sz : ∀ xs : List Syn, szL (xs.flatMap fun | .mk _ _ _ _ ks => ks) ≤ szL xs
  | [] => Nat.le_refl _
  | .mk k a t n ks :: xs => by
    have := kids_sz xs
    rw [List.flatMap_cons, szL_app, szL, sz]
    show szL ks + _ ≤ _
    omega
theorem kids_all {N : Int → Int → ByteArray → Prop} : ∀ {xs : List Syn}, allL N xs → allL N (xs.flatMap fun | .mk _ _ _ _ ks => ks)
  | [], _ => trivial
  | .mk k a t n ks :: xs, h => by
    rw [allL, allN] at h
    rw [List.flatMap_cons]
    exact allL_app h.1.2 (kids_all h.2)
section
variable (N : Int → Int → ByteArray → Prop)
/-- Tokens of which nodes may be made. -/
structure Tok (t : Tk) : Prop where
  at_ : ∀ k : Int, ¬ (k = 4 ∨ k = 10 ∨ k = 16 ∨ k = 17 ∨ k = 18 ∨ k = 19 ∨ k = 20 ∨ k = 23 ∨ k = 21) → ∀ u : ByteArray, N k t.a u
  sg : N 21 t.a t.t
  nm : bytes t.t ≠ [] → ∀ k : Int, N k t.a t.t
def Gd (l : List Tk) : Prop := ∃ (V : List Tk) (a : Int), l = V ++ [tE a] ∧ (∀ t ∈ V, bytes t.t ≠ []) ∧ ∀ t ∈ l, Tok N t
end
section
variable {N : Int → Int → ByteArray → Prop}
theorem Gd.hd {l : List Tk} (h : Gd N l) : Tok N (pHd l) := by
  obtain ⟨V, a, rfl, -, h2⟩ := h
  cases V with
  | nil => exact h2 (tE a) (by simp)
  | cons v V => exact h2 v (by simp)
theorem Gd.tl {l : List Tk} (h : Gd N l) (h0 : ∀ a, pHd l ≠ tE a) : Gd N (pTl l) ∧ (pTl l).length + 1 = l.length ∧ bytes (pHd l).t ≠ [] := by
  obtain ⟨V, a, rfl, h1, h2⟩ := h
  cases V with
  | nil => exact absurd rfl (h0 a)
  | cons v V =>
    rw [tl_end]
    exact ⟨⟨V, a, rfl, fun t ht => h1 t (by simp [ht]), fun t ht => h2 t (by simp at ht ⊢; exact .inr ht)⟩, by simp, h1 v (by simp)⟩
theorem Gd.is {l : List Tk} (h : Gd N l) {s : List UInt8} (hs : s ≠ []) (e : pIs s l = true) : Gd N (pTl l) ∧ (pTl l).length + 1 = l.length ∧ bytes (pHd l).t ≠ [] := h.tl fun a0 q => by
  have e' : (bytes (pHd l).t == s) = true := e
  rw [q] at e'
  have e2 : ([] : List UInt8) = s := by simpa using (show (([] : List UInt8) == s) = true from e')
  exact hs e2.symm
theorem Gd.op {l : List Tk} (h : Gd N l) {i : Nat} (e : pOp i l = true) : Gd N (pTl l) ∧ (pTl l).length + 1 = l.length ∧ bytes (pHd l).t ≠ [] := h.tl fun a0 q => by
  have e' : (pOps i).contains (bytes (pHd l).t) = true := e
  rw [q] at e'
  have h0 := op_end i a0
  unfold pOp at h0
  have h1 : (pOps i).contains (bytes (tE a0).t) = false := h0
  rw [h1] at e'
  cases e'
theorem Gd.named {l : List Tk} (h : Gd N l) (e : pNamed (pHd l) = true) : Gd N (pTl l) ∧ (pTl l).length + 1 = l.length ∧ bytes (pHd l).t ≠ [] := h.tl fun a0 q => by
  rw [q] at e
  cases e
theorem Gd.num {l : List Tk} (h : Gd N l) (e : (pHd l).k = 1) : Gd N (pTl l) ∧ (pTl l).length + 1 = l.length ∧ bytes (pHd l).t ≠ [] := h.tl fun a0 q => by
  rw [q] at e
  cases e
theorem Gd.name {l l1 : List Tk} {t : Tk} (h : Gd N l) (e : pName l = .ok (t, l1)) : Gd N l1 ∧ l1.length + 1 = l.length ∧ (∀ k, N k t.a t.t) ∧ Tok N t := by
  unfold pName at e
  by_cases hn : pNamed (pHd l) = true
  · rw [if_pos hn] at e
    cases e
    obtain ⟨g1, g2, g3⟩ := h.named hn
    exact ⟨g1, g2, h.hd.nm g3, h.hd⟩
  · rw [if_neg hn] at e; cases e
theorem Gd.need {l l1 : List Tk} {s : List UInt8} (h : Gd N l) (hs : s ≠ []) (e : pNeed s l = .ok l1) : Gd N l1 ∧ l1.length + 1 = l.length := by
  unfold pNeed at e
  by_cases hn : pIs s l = true
  · rw [if_pos hn] at e
    cases e
    obtain ⟨g1, g2, -⟩ := h.is hs hn
    exact ⟨g1, g2⟩
  · rw [if_neg hn] at e; cases e
/-- What a construct is given. -/
def exW (N : Int → Int → ByteArray → Prop) : Want → Nat × Prop
  | .rep _ a x => (szL x, allL N x ∧ ∀ u, N 22 a u)
  | .chain a => (1, ∀ u, N 11 a u)
  | .list w => match w with | .rep _ _ _ => (0, False) | .chain _ => (0, False) | .list _ => (0, False) | _ => (0, True)
  | _ => (0, True)
abbrev Paid (N : Int → Int → ByteArray → Prop) (w : Want) (l : List Tk) (xs : List Syn) (r : List Tk) : Prop := Gd N r ∧ szL xs + 6 * r.length ≤ 6 * l.length + (exW N w).1 ∧ allL N xs
theorem one_all {k a n : Int} {t : ByteArray} {ks : List Syn} (h : N k a t) (g : allL N ks) : allL N [.mk k a t n ks] := by
  rw [allL, allN]
  exact ⟨⟨h, g⟩, trivial⟩
theorem one_sz {k a n : Int} {t : ByteArray} {ks : List Syn} : szL [.mk k a t n ks] = 1 + szL ks := by rw [szL, szL, sz]; rfl
theorem nil_sz : szL [] = 0 := by rw [szL]
theorem nil_all : allL N [] := trivial
theorem Gd.mneed {l l1 : List Tk} {t : Tk} {s : List UInt8} {f : Nat} (h : Gd N l) (hs : s ≠ []) (e : mNeed s f l = .ok (t, l1)) : Gd N l1 ∧ l1.length + 1 = l.length ∧ t = pHd l := by
  unfold mNeed at e
  by_cases hn : pIs s l = true
  · rw [if_pos hn] at e
    cases e
    obtain ⟨g1, g2, -⟩ := h.is hs hn
    exact ⟨g1, g2, rfl⟩
  · rw [if_neg hn] at e; cases e
abbrev Ih (N : Int → Int → ByteArray → Prop) (f : Nat) : Prop := ∀ (w : Want) (d : Nat) (l : List Tk) (xs : List Syn) (r : List Tk), Gd N l → (exW N w).2 → pRead f w d l = .ok (xs, r) → Paid N w l xs r
theorem before_paid {f d : Nat} {s : List UInt8} {w : Want} {l r : List Tk} {xs : List Syn} (ih : Ih N f) (hw : (exW N (.list w)).2) (h0 : (exW N (.list w)).1 = 0) (hG : Gd N l) (e : mBefore s w d f l = .ok (xs, r)) : Gd N r ∧ szL xs + 6 * r.length ≤ 6 * l.length ∧ allL N xs := by
  unfold mBefore at e
  split at e
  · cases e
    exact ⟨hG, by rw [nil_sz]; (try dsimp only); omega, nil_all⟩
  · obtain ⟨i1, i2, i3⟩ := ih (.list w) _ _ _ _ hG hw e
    rw [h0] at i2
    exact ⟨i1, i2, i3⟩
theorem params_paid {f d : Nat} {l r : List Tk} {k : Syn} (ih : Ih N f) (hG : Gd N l) (e : mParams d f l = .ok (k, r)) : Gd N r ∧ sz k + 6 * r.length ≤ 6 * l.length ∧ allN N k := by
  unfold mParams at e
  obtain ⟨⟨u, l1⟩, c1, e⟩ := ebind_ok e
  obtain ⟨n1, n2, rfl⟩ := hG.mneed (by decide) c1
  obtain ⟨⟨ps, l2⟩, c2, e⟩ := ebind_ok e
  obtain ⟨i1, i2, i3⟩ := before_paid (w := .param) ih trivial rfl n1 c2
  obtain ⟨⟨u2, l3⟩, c3, e⟩ := ebind_ok e
  obtain ⟨m1, m2, -⟩ := i1.mneed (by decide) c3
  cases e
  exact ⟨m1, by rw [sz]; (try dsimp only); omega, hG.hd.at_ 3 (by decide) _, i3⟩
theorem results_paid {f d : Nat} {l r : List Tk} {k : Syn} (ih : Ih N f) (hG : Gd N l) (e : mResults d f l = .ok (k, r)) : Gd N r ∧ sz k + 6 * r.length ≤ 6 * l.length + 1 ∧ allN N k := by
  unfold mResults at e
  obtain ⟨⟨b, l0⟩, c0, e⟩ := ebind_ok e
  cases c0
  dsimp only at e
  rw [ite_rd] at e
  split at e
  · rename_i hb
    obtain ⟨g1, g2, -⟩ := hG.is (by decide) hb
    obtain ⟨⟨u, l1⟩, c1, e⟩ := ebind_ok e
    cases c1
    obtain ⟨⟨o, l2⟩, c2, e⟩ := ebind_ok e
    obtain ⟨n1, n2, rfl⟩ := g1.mneed (by decide) c2
    obtain ⟨⟨x, l3⟩, c3, e⟩ := ebind_ok e
    obtain ⟨i1, i2, i3⟩ := ih (.list .param) _ _ _ _ n1 trivial c3
    obtain ⟨⟨u2, l4⟩, c4, e⟩ := ebind_ok e
    obtain ⟨m1, m2, -⟩ := i1.mneed (by decide) c4
    cases e
    dsimp only [exW] at i2
    exact ⟨m1, by rw [sz]; (try dsimp only); omega, g1.hd.at_ 3 (by decide) _, i3⟩
  · obtain ⟨⟨p, l1⟩, c1, e⟩ := ebind_ok e
    cases c1
    cases e
    exact ⟨hG, by rw [sz, nil_sz]; (try dsimp only); omega, hG.hd.at_ 3 (by decide) _, nil_all⟩
theorem when_paid {f d : Nat} {s : List UInt8} {l r : List Tk} {k : Syn} (ih : Ih N f) (hs : s ≠ []) (hG : Gd N l) (e : mWhen s d f l = .ok (k, r)) : Gd N r ∧ sz k + 6 * r.length ≤ 6 * l.length + 1 ∧ allN N k := by
  unfold mWhen at e
  obtain ⟨⟨p, l0⟩, c0, e⟩ := ebind_ok e
  cases c0
  obtain ⟨⟨b, l0⟩, c0, e⟩ := ebind_ok e
  cases c0
  dsimp only at e
  rw [ite_rd] at e
  split at e
  · rename_i hb
    obtain ⟨g1, g2, -⟩ := hG.is hs hb
    obtain ⟨⟨u, l1⟩, c1, e⟩ := ebind_ok e
    cases c1
    obtain ⟨⟨x, l3⟩, c3, e⟩ := ebind_ok e
    obtain ⟨i1, i2, i3⟩ := ih (.lvl 0) _ _ _ _ g1 trivial c3
    cases e
    dsimp only [exW] at i2
    exact ⟨i1, by rw [sz]; (try dsimp only); omega, hG.hd.at_ 5 (by decide) _, i3⟩
  · cases e
    exact ⟨hG, by rw [sz, nil_sz]; (try dsimp only); omega, hG.hd.at_ 5 (by decide) _, nil_all⟩
set_option maxHeartbeats 2000000 in
theorem paid_read : ∀ (f : Nat) (w : Want) (d : Nat) (l : List Tk) (xs : List Syn) (r : List Tk), Gd N l → (exW N w).2 → pRead f w d l = .ok (xs, r) → Paid N w l xs r
  | 0, w, d, l, xs, r, _, _, e => by rw [pRead] at e; cases e
  | f + 1, w, d, l, xs, r, hG, hX, e => by
    have ih : ∀ (w : Want) (d : Nat) (l : List Tk) (xs : List Syn) (r : List Tk), Gd N l → (exW N w).2 → pRead f w d l = .ok (xs, r) → Paid N w l xs r := paid_read f
    have P := hG.hd
    have at_ := P.at_
    cases w with
    | lvl i =>
      rw [pRead] at e
      show Gd N r ∧ szL xs + 6 * r.length ≤ 6 * l.length + 0 ∧ allL N xs
      split at e
      · split at e
        · rename_i ho
          obtain ⟨g1, g2, g3⟩ := hG.op ho
          split at e
          · cases e
          · obtain ⟨⟨x, l1⟩, e1, e2⟩ := ebind_ok e
            obtain ⟨i1, i2, i3⟩ := ih (.lvl i) _ _ _ _ g1 trivial e1
            cases e2
            dsimp only [exW] at i2
            exact ⟨i1, by rw [one_sz]; (try dsimp only); omega, one_all P.sg i3⟩
        · exact ih (.lvl (i + 1)) _ _ _ _ hG trivial e
      · split at e
        · obtain ⟨⟨x, l1⟩, e1, e2⟩ := ebind_ok e
          obtain ⟨i1, i2, i3⟩ := ih (.lvl 4) _ _ _ _ hG trivial e1
          dsimp only [exW] at i2 e2
          split at e2
          · rename_i ho
            obtain ⟨g1, g2, g3⟩ := i1.op ho
            obtain ⟨⟨y, l2⟩, e3, e4⟩ := ebind_ok e2
            obtain ⟨j1, j2, j3⟩ := ih (.lvl 4) _ _ _ _ g1 trivial e3
            cases e4
            dsimp only [exW] at j2
            exact ⟨j1, by rw [one_sz, szL_app]; (try dsimp only); omega, one_all (at_ 22 (by decide) _) (allL_app i3 j3)⟩
          · cases e2
            exact ⟨i1, i2, i3⟩
        · split at e
          · split at e
            · rename_i hk
              obtain ⟨g1, g2, g3⟩ := hG.num hk
              cases e
              exact ⟨g1, by unfold pLeaf; rw [one_sz, nil_sz]; (try dsimp only); omega, one_all (P.nm g3 20) nil_all⟩
            · split at e
              · rename_i hb
                obtain ⟨g1, g2, g3⟩ : Gd N (pTl l) ∧ (pTl l).length + 1 = l.length ∧ bytes (pHd l).t ≠ [] := by
                  rcases hb with hb | hb
                  · exact hG.is (by decide) hb
                  · exact hG.is (by decide) hb
                cases e
                exact ⟨g1, by unfold pLeaf; rw [one_sz, nil_sz]; (try dsimp only); omega, one_all (P.nm g3 23) nil_all⟩
              · split at e
                · rename_i hq
                  obtain ⟨g1, g2, g3⟩ := hG.is (by decide) hq
                  split at e
                  · cases e
                  · obtain ⟨⟨x, l1⟩, e1, e2⟩ := ebind_ok e
                    obtain ⟨i1, i2, i3⟩ := ih (.lvl 0) _ _ _ _ g1 trivial e1
                    obtain ⟨l2, e3, e4⟩ := ebind_ok e2
                    obtain ⟨n1, n2⟩ := i1.need (by decide) e3
                    cases e4
                    dsimp only [exW] at i2
                    exact ⟨n1, by (try dsimp only); omega, i3⟩
                · exact ih .place _ _ _ _ hG trivial e
          · obtain ⟨⟨x, l1⟩, e1, e2⟩ := ebind_ok e
            obtain ⟨i1, i2, i3⟩ := ih (.lvl (i + 1)) _ _ _ _ hG trivial e1
            obtain ⟨j1, j2, j3⟩ := ih (.rep i (pHd l).a x) _ _ _ _ i1 ⟨i3, fun u => at_ 22 (by decide) u⟩ e2
            dsimp only [exW] at i2 j2
            exact ⟨j1, by (try dsimp only); omega, j3⟩
    | rep i a x0 =>
      rw [pRead] at e
      show Gd N r ∧ szL xs + 6 * r.length ≤ 6 * l.length + szL x0 ∧ allL N xs
      split at e
      · rename_i ho
        obtain ⟨g1, g2, g3⟩ := hG.op ho
        obtain ⟨⟨y, l1⟩, e1, e2⟩ := ebind_ok e
        obtain ⟨i1, i2, i3⟩ := ih (.lvl (i + 1)) _ _ _ _ g1 trivial e1
        obtain ⟨j1, j2, j3⟩ := ih (.rep i a [.mk 22 a (pHd l).t 0 (x0 ++ y)]) _ _ _ _ i1 ⟨one_all (hX.2 _) (allL_app hX.1 i3), hX.2⟩ e2
        dsimp only [exW] at i2 j2
        rw [one_sz, szL_app] at j2
        exact ⟨j1, by (try dsimp only); omega, j3⟩
      · cases e
        exact ⟨hG, by (try dsimp only); omega, hX.1⟩
    | bare =>
      rw [pRead] at e
      show Gd N r ∧ szL xs + 6 * r.length ≤ 6 * l.length + 0 ∧ allL N xs
      obtain ⟨⟨t, l1⟩, e1, e2⟩ := ebind_ok e
      obtain ⟨n1, n2, n3, -⟩ := hG.name e1
      cases e2
      exact ⟨n1, by unfold pLeaf; rw [one_sz, nil_sz]; (try dsimp only); omega, one_all (n3 19) nil_all⟩
    | place =>
      rw [pRead] at e
      show Gd N r ∧ szL xs + 6 * r.length ≤ 6 * l.length + 0 ∧ allL N xs
      obtain ⟨⟨t, l1⟩, e1, e2⟩ := ebind_ok e
      obtain ⟨n1, n2, n3, -⟩ := hG.name e1
      dsimp only at e2
      split at e2
      · rename_i ho
        obtain ⟨g1, g2, g3⟩ := n1.is (by decide) ho
        obtain ⟨⟨x, l2⟩, e3, e4⟩ := ebind_ok e2
        obtain ⟨i1, i2, i3⟩ := ih .bare _ _ _ _ g1 trivial e3
        cases e4
        dsimp only [exW] at i2
        exact ⟨i1, by rw [one_sz]; (try dsimp only); omega, one_all (n3 18) i3⟩
      · cases e2
        exact ⟨n1, by unfold pLeaf; rw [one_sz, nil_sz]; (try dsimp only); omega, one_all (n3 18) nil_all⟩
    | param =>
      rw [pRead] at e
      show Gd N r ∧ szL xs + 6 * r.length ≤ 6 * l.length + 0 ∧ allL N xs
      obtain ⟨⟨t, l1⟩, e1, e2⟩ := ebind_ok e
      obtain ⟨n1, n2, n3, -⟩ := hG.name e1
      dsimp only at e2
      split at e2
      · rename_i ho
        obtain ⟨g1, g2, g3⟩ := n1.is (by decide) ho
        obtain ⟨⟨x, l2⟩, e3, e4⟩ := ebind_ok e2
        obtain ⟨i1, i2, i3⟩ := ih .bare _ _ _ _ g1 trivial e3
        cases e4
        dsimp only [exW] at i2
        exact ⟨i1, by rw [one_sz]; (try dsimp only); omega, one_all (n3 4) i3⟩
      · cases e2
        exact ⟨n1, by unfold pLeaf; rw [one_sz, nil_sz]; (try dsimp only); omega, one_all (n3 4) nil_all⟩
    | list w =>
      rw [pRead] at e
      obtain ⟨⟨x, l1⟩, e1, e2⟩ := ebind_ok e
      have hw : (exW N w).2 ∧ (exW N w).1 = 0 ∧ (exW N (.list w)).1 = 0 := by
        cases w <;> first | exact ⟨trivial, rfl, rfl⟩ | exact absurd hX (by intro q; exact q)
      obtain ⟨i1, i2, i3⟩ := ih w _ _ _ _ hG hw.1 e1
      rw [hw.2.1] at i2
      show Gd N r ∧ szL xs + 6 * r.length ≤ 6 * l.length + (exW N (.list w)).1 ∧ allL N xs
      rw [hw.2.2]
      dsimp only at e2
      split at e2
      · rename_i ho
        obtain ⟨g1, g2, g3⟩ := i1.is (by decide) ho
        obtain ⟨⟨y, l2⟩, e3, e4⟩ := ebind_ok e2
        obtain ⟨j1, j2, j3⟩ := ih (.list w) _ _ _ _ g1 hX e3
        rw [hw.2.2] at j2
        cases e4
        exact ⟨j1, by rw [szL_app]; (try dsimp only); omega, allL_app i3 j3⟩
      · cases e2
        exact ⟨i1, i2, i3⟩
    | cond =>
      rw [pRead] at e
      exact ih (.lvl 0) _ _ _ _ hG trivial e
    | load =>
      rw [pRead] at e
      show Gd N r ∧ szL xs + 6 * r.length ≤ 6 * l.length + 0 ∧ allL N xs
      obtain ⟨⟨t, l1⟩, e1, e2⟩ := ebind_ok e
      obtain ⟨n1, n2, n3, -⟩ := hG.name e1
      obtain ⟨l2, e3, e4⟩ := ebind_ok e2
      obtain ⟨m1, m2⟩ := n1.need (by decide) e3
      obtain ⟨⟨x, l3⟩, e5, e6⟩ := ebind_ok e4
      obtain ⟨i1, i2, i3⟩ := ih (.lvl 4) _ _ _ _ m1 trivial e5
      obtain ⟨l4, e7, e8⟩ := ebind_ok e6
      obtain ⟨k1, k2⟩ := i1.need (by decide) e7
      cases e8
      dsimp only [exW] at i2
      exact ⟨k1, by rw [one_sz]; (try dsimp only); omega, one_all (n3 16) i3⟩
    | call =>
      rw [eq_call] at e
      unfold mCall at e
      show Gd N r ∧ szL xs + 6 * r.length ≤ 6 * l.length + 0 ∧ allL N xs
      obtain ⟨⟨t, l1⟩, e1, e2⟩ := ebind_ok e
      obtain ⟨n1, n2, n3, -⟩ := hG.name e1
      obtain ⟨⟨u, l2⟩, e3, e4⟩ := ebind_ok e2
      obtain ⟨m1, m2, -⟩ := n1.mneed (by decide) e3
      obtain ⟨⟨x, l3⟩, e5, e6⟩ := ebind_ok e4
      obtain ⟨i1, i2, i3⟩ := before_paid (w := .lvl 4) ih trivial rfl m1 e5
      obtain ⟨⟨u2, l4⟩, e7, e8⟩ := ebind_ok e6
      obtain ⟨k1, k2, -⟩ := i1.mneed (by decide) e7
      cases e8
      exact ⟨k1, by rw [one_sz]; (try dsimp only); omega, one_all (n3 17) i3⟩
    | right =>
      rw [pRead] at e
      show Gd N r ∧ szL xs + 6 * r.length ≤ 6 * l.length + 0 ∧ allL N xs
      split at e
      · rename_i ho
        obtain ⟨g1, g2, g3⟩ := hG.is (by decide) ho
        cases e
        exact ⟨g1, by rw [one_sz, nil_sz]; (try dsimp only); omega, one_all (at_ 15 (by decide) _) nil_all⟩
      · split at e
        · exact ih .load _ _ _ _ hG trivial e
        · split at e
          · exact ih .call _ _ _ _ hG trivial e
          · exact ih (.lvl 4) _ _ _ _ hG trivial e
    | block =>
      rw [pRead] at e
      show Gd N r ∧ szL xs + 6 * r.length ≤ 6 * l.length + 0 ∧ allL N xs
      obtain ⟨l1, e1, e2⟩ := ebind_ok e
      obtain ⟨n1, n2⟩ := hG.need (by decide) e1
      dsimp only at e2
      split at e2
      · cases e2
      · obtain ⟨⟨x, l2⟩, e3, e4⟩ := ebind_ok e2
        obtain ⟨i1, i2, i3⟩ := ih .stmts _ _ _ _ n1 trivial e3
        obtain ⟨l3, e5, e6⟩ := ebind_ok e4
        obtain ⟨m1, m2⟩ := i1.need (by decide) e5
        cases e6
        dsimp only [exW] at i2
        exact ⟨m1, by rw [one_sz]; (try dsimp only); omega, one_all (at_ 6 (by decide) _) i3⟩
    | chain a =>
      rw [pRead] at e
      show Gd N r ∧ szL xs + 6 * r.length ≤ 6 * l.length + 1 ∧ allL N xs
      have hX : ∀ u, N 11 a u := hX
      obtain ⟨⟨c, l1⟩, e1, e2⟩ := ebind_ok e
      obtain ⟨i1, i2, i3⟩ := ih (.lvl 0) _ _ _ _ hG trivial e1
      obtain ⟨⟨b, l2⟩, e3, e4⟩ := ebind_ok e2
      obtain ⟨j1, j2, j3⟩ := ih .block _ _ _ _ i1 trivial e3
      dsimp only [exW] at i2 j2 e4
      split at e4
      · rename_i he
        obtain ⟨g1, g2, -⟩ := j1.is (by decide) he
        split at e4
        · rename_i hf
          obtain ⟨g3, g4, -⟩ := g1.is (by decide) hf
          split at e4
          · cases e4
          · obtain ⟨⟨y, l4⟩, e5, e6⟩ := ebind_ok e4
            obtain ⟨k1, k2, k3⟩ := ih (.chain (pHd (pTl l2)).a) _ _ _ _ g3 (fun u => g1.hd.at_ 11 (by decide) u) e5
            cases e6
            dsimp only [exW] at k2
            exact ⟨k1, by rw [one_sz, szL_app, szL_app]; (try dsimp only); omega, one_all (hX _) (allL_app (allL_app i3 j3) k3)⟩
        · obtain ⟨⟨y, l4⟩, e5, e6⟩ := ebind_ok e4
          obtain ⟨k1, k2, k3⟩ := ih .block _ _ _ _ g1 trivial e5
          cases e6
          dsimp only [exW] at k2
          exact ⟨k1, by rw [one_sz, szL_app, szL_app]; (try dsimp only); omega, one_all (hX _) (allL_app (allL_app i3 j3) k3)⟩
      · cases e4
        exact ⟨j1, by rw [one_sz, szL_app]; (try dsimp only); omega, one_all (hX _) (allL_app i3 j3)⟩
    | stmts =>
      rw [pRead] at e
      show Gd N r ∧ szL xs + 6 * r.length ≤ 6 * l.length + 0 ∧ allL N xs
      split at e
      · obtain ⟨⟨x, l1⟩, e1, e2⟩ := ebind_ok e
        obtain ⟨i1, i2, i3⟩ := ih .stmt _ _ _ _ hG trivial e1
        obtain ⟨⟨y, l2⟩, e3, e4⟩ := ebind_ok e2
        obtain ⟨j1, j2, j3⟩ := ih .stmts _ _ _ _ i1 trivial e3
        cases e4
        dsimp only [exW] at i2 j2
        exact ⟨j1, by rw [szL_app]; (try dsimp only); omega, allL_app i3 j3⟩
      · cases e
        exact ⟨hG, by rw [nil_sz]; (try dsimp only); omega, nil_all⟩
    | stmt =>
      rw [pRead] at e
      show Gd N r ∧ szL xs + 6 * r.length ≤ 6 * l.length + 0 ∧ allL N xs
      split at e
      · rename_i hn
        obtain ⟨-, -, g3⟩ := hG.named hn
        split at e
        · obtain ⟨⟨x, l1⟩, e1, e2⟩ := ebind_ok e
          obtain ⟨i1, i2, i3⟩ := ih .load _ _ _ _ hG trivial e1
          obtain ⟨l2, e3, e4⟩ := ebind_ok e2
          obtain ⟨m1, m2⟩ := i1.need (by decide) e3
          obtain ⟨⟨y, l3⟩, e5, e6⟩ := ebind_ok e4
          obtain ⟨j1, j2, j3⟩ := ih (.lvl 4) _ _ _ _ m1 trivial e5
          obtain ⟨l4, e7, e8⟩ := ebind_ok e6
          obtain ⟨k1, k2⟩ := j1.need (by decide) e7
          cases e8
          dsimp only [exW] at i2 j2
          refine ⟨k1, ?_, ?_⟩
          · rw [one_sz, szL_app]
            exact Nat.le_trans (Nat.add_le_add_right (Nat.add_le_add_left (Nat.add_le_add_right (kids_sz x) _) _) _) (by (try dsimp only); omega)
          exact (one_all (P.nm g3 10) (allL_app (kids_all i3) j3))
        · split at e
          · obtain ⟨⟨x, l1⟩, e1, e2⟩ := ebind_ok e
            obtain ⟨i1, i2, i3⟩ := ih .call _ _ _ _ hG trivial e1
            obtain ⟨l2, e3, e4⟩ := ebind_ok e2
            obtain ⟨m1, m2⟩ := i1.need (by decide) e3
            cases e4
            dsimp only [exW] at i2
            exact ⟨m1, by rw [one_sz, szL, sz, nil_sz]; (try dsimp only); omega, one_all (at_ 9 (by decide) _) (by rw [allL, allN]; exact ⟨⟨at_ 3 (by decide) _, nil_all⟩, i3⟩)⟩
          · obtain ⟨⟨x, l1⟩, e1, e2⟩ := ebind_ok e
            obtain ⟨i1, i2, i3⟩ := ih (.list .place) _ _ _ _ hG trivial e1
            obtain ⟨l2, e3, e4⟩ := ebind_ok e2
            obtain ⟨m1, m2⟩ := i1.need (by decide) e3
            obtain ⟨⟨y, l3⟩, e5, e6⟩ := ebind_ok e4
            obtain ⟨j1, j2, j3⟩ := ih .right _ _ _ _ m1 trivial e5
            obtain ⟨l4, e7, e8⟩ := ebind_ok e6
            obtain ⟨k1, k2⟩ := j1.need (by decide) e7
            cases e8
            dsimp only [exW] at i2 j2
            exact ⟨k1, by rw [one_sz, szL, sz]; (try dsimp only); omega, one_all (at_ 9 (by decide) _) (by rw [allL, allN]; exact ⟨⟨at_ 3 (by decide) _, i3⟩, j3⟩)⟩
      · split at e
        · rename_i ho
          obtain ⟨g1, g2, g3⟩ := hG.is (by decide) ho
          obtain ⟨i1, i2, i3⟩ := ih (.chain (pHd l).a) _ _ _ _ g1 (fun u => at_ 11 (by decide) u) e
          dsimp only [exW] at i2
          exact ⟨i1, by (try dsimp only); omega, i3⟩
        · split at e
          · rename_i ho
            obtain ⟨g1, g2, g3⟩ := hG.is (by decide) ho
            obtain ⟨⟨c, l1⟩, e1, e2⟩ := ebind_ok e
            obtain ⟨i1, i2, i3⟩ := ih (.lvl 0) _ _ _ _ g1 trivial e1
            obtain ⟨⟨b, l2⟩, e3, e4⟩ := ebind_ok e2
            obtain ⟨j1, j2, j3⟩ := ih .block _ _ _ _ i1 trivial e3
            cases e4
            dsimp only [exW] at i2 j2
            exact ⟨j1, by rw [one_sz, szL_app]; (try dsimp only); omega, one_all (at_ 12 (by decide) _) (allL_app i3 j3)⟩
          · obtain ⟨⟨c, l1⟩, e1, e2⟩ := ebind_ok e
            obtain ⟨g1, g2⟩ : Gd N (pTl l) ∧ (pTl l).length ≤ l.length := by
              cases l with
              | nil => exact ⟨hG, Nat.le_refl _⟩
              | cons v l =>
                obtain ⟨V, a, hV, h1, h2⟩ := hG
                cases V with
                | nil =>
                  rw [List.nil_append] at hV
                  rw [hV]
                  exact ⟨⟨[], a, rfl, by simp, by rw [hV] at h2; exact h2⟩, Nat.le_refl _⟩
                | cons u V =>
                  rw [hV, tl_end]
                  refine ⟨⟨V, a, rfl, fun t ht => h1 t (by simp [ht]), fun t ht => h2 t ?_⟩, by simp⟩
                  rw [hV]
                  simp at ht ⊢
                  exact .inr ht
            obtain ⟨i1, i2, i3⟩ := ih (.lvl 0) _ _ _ _ g1 trivial e1
            obtain ⟨l2, e3, e4⟩ := ebind_ok e2
            obtain ⟨m1, m2⟩ := i1.need (by decide) e3
            cases e4
            dsimp only [exW] at i2
            exact ⟨m1, by rw [one_sz]; (try dsimp only); omega, one_all (by split <;> exact at_ _ (by decide) _) i3⟩
    | decls =>
      rw [pRead] at e
      show Gd N r ∧ szL xs + 6 * r.length ≤ 6 * l.length + 0 ∧ allL N xs
      split at e
      · rename_i ho
        obtain ⟨g1, g2, g3⟩ := hG.is (by decide) ho
        obtain ⟨⟨x, l1⟩, e1, e2⟩ := ebind_ok e
        obtain ⟨i1, i2, i3⟩ := ih (.list .param) _ _ _ _ g1 trivial e1
        obtain ⟨l2, e3, e4⟩ := ebind_ok e2
        obtain ⟨m1, m2⟩ := i1.need (by decide) e3
        obtain ⟨⟨y, l3⟩, e5, e6⟩ := ebind_ok e4
        obtain ⟨j1, j2, j3⟩ := ih .decls _ _ _ _ m1 trivial e5
        cases e6
        dsimp only [exW] at i2 j2
        exact ⟨j1, by rw [szL, sz]; (try dsimp only); omega, by rw [allL, allN]; exact ⟨⟨at_ 7 (by decide) _, i3⟩, j3⟩⟩
      · split at e
        · rename_i ho
          obtain ⟨g1, g2, g3⟩ := hG.is (by decide) ho
          obtain ⟨⟨t, l1⟩, e1, e2⟩ := ebind_ok e
          obtain ⟨n1, n2, n3, -⟩ := g1.name e1
          obtain ⟨l2, e3, e4⟩ := ebind_ok e2
          obtain ⟨m1, m2⟩ := n1.need (by decide) e3
          dsimp only at e4
          split at e4
          · cases e4
          · rename_i hk
            obtain ⟨o1, o2, -⟩ := m1.num (Decidable.not_not.1 hk)
            split at e4
            · cases e4
            · obtain ⟨l3, e5, e6⟩ := ebind_ok e4
              obtain ⟨q1, q2⟩ := o1.need (by decide) e5
              obtain ⟨l4, e7, e8⟩ := ebind_ok e6
              obtain ⟨r1, r2⟩ := q1.need (by decide) e7
              obtain ⟨⟨y, l5⟩, e9, e10⟩ := ebind_ok e8
              obtain ⟨j1, j2, j3⟩ := ih .decls _ _ _ _ r1 trivial e9
              cases e10
              dsimp only [exW] at j2
              exact ⟨j1, by rw [szL, sz, nil_sz]; (try dsimp only); omega, by rw [allL, allN]; exact ⟨⟨at_ 8 (by decide) _, nil_all⟩, j3⟩⟩
        · cases e
          exact ⟨hG, by rw [nil_sz]; (try dsimp only); omega, nil_all⟩
    | body =>
      rw [pRead] at e
      show Gd N r ∧ szL xs + 6 * r.length ≤ 6 * l.length + 0 ∧ allL N xs
      obtain ⟨l1, e1, e2⟩ := ebind_ok e
      obtain ⟨n1, n2⟩ := hG.need (by decide) e1
      dsimp only at e2
      split at e2
      · cases e2
      · obtain ⟨⟨x, l2⟩, e3, e4⟩ := ebind_ok e2
        obtain ⟨i1, i2, i3⟩ := ih .decls _ _ _ _ n1 trivial e3
        obtain ⟨⟨y, l3⟩, e5, e6⟩ := ebind_ok e4
        obtain ⟨j1, j2, j3⟩ := ih .stmts _ _ _ _ i1 trivial e5
        obtain ⟨l4, e7, e8⟩ := ebind_ok e6
        obtain ⟨m1, m2⟩ := j1.need (by decide) e7
        cases e8
        dsimp only [exW] at i2 j2
        exact ⟨m1, by rw [one_sz, szL_app]; (try dsimp only); omega, one_all (at_ 6 (by decide) _) (allL_app i3 j3)⟩
    | record =>
      rw [pRead] at e
      show Gd N r ∧ szL xs + 6 * r.length ≤ 6 * l.length + 0 ∧ allL N xs
      obtain ⟨l0, e0, e⟩ := ebind_ok e
      obtain ⟨h1, h2⟩ := hG.need (by decide) e0
      obtain ⟨⟨t, l1⟩, e1, e2⟩ := ebind_ok e
      obtain ⟨n1, n2, n3, -⟩ := h1.name e1
      obtain ⟨l2, e3, e4⟩ := ebind_ok e2
      obtain ⟨m1, m2⟩ := n1.need (by decide) e3
      obtain ⟨⟨x, l3⟩, e5, e6⟩ := ebind_ok e4
      obtain ⟨i1, i2, i3⟩ := ih (.list .bare) _ _ _ _ m1 trivial e5
      obtain ⟨l4, e7, e8⟩ := ebind_ok e6
      obtain ⟨k1, k2⟩ := i1.need (by decide) e7
      cases e8
      dsimp only [exW] at i2
      exact ⟨k1, by rw [one_sz]; (try dsimp only); omega, one_all (at_ 1 (by decide) _) i3⟩
    | proc =>
      rw [eq_proc] at e
      unfold mProc at e
      show Gd N r ∧ szL xs + 6 * r.length ≤ 6 * l.length + 0 ∧ allL N xs
      obtain ⟨⟨p, l0⟩, c0, e⟩ := ebind_ok e
      cases c0
      obtain ⟨⟨ext, l0⟩, c0, e⟩ := ebind_ok e
      cases c0
      obtain ⟨⟨q, l0⟩, c0, e⟩ := ebind_ok e
      dsimp only at c0 e
      obtain ⟨h1, h2⟩ : Gd N l0 ∧ l0.length ≤ l.length := by
        by_cases hi : pIs wImport l = true
        · rw [if_pos hi] at c0
          obtain ⟨g1, g2, -⟩ := hG.is (by decide) hi
          cases c0
          exact ⟨g1, by omega⟩
        · rw [if_neg hi] at c0
          cases c0
          exact ⟨hG, Nat.le_refl _⟩
      obtain ⟨⟨u, l1⟩, c1, e⟩ := ebind_ok e
      obtain ⟨n1, n2, -⟩ := h1.mneed (by decide) c1
      obtain ⟨⟨t, l2⟩, c2, e⟩ := ebind_ok e
      obtain ⟨m1, m2, m3, -⟩ := n1.name c2
      obtain ⟨⟨k1, l3⟩, c3, e⟩ := ebind_ok e
      obtain ⟨p1, p2, p3⟩ := params_paid ih m1 c3
      obtain ⟨⟨k2, l4⟩, c4, e⟩ := ebind_ok e
      obtain ⟨q1, q2, q3⟩ := results_paid ih p1 c4
      obtain ⟨⟨k3, l5⟩, c5, e⟩ := ebind_ok e
      obtain ⟨r1, r2, r3⟩ := when_paid ih (by decide) q1 c5
      obtain ⟨⟨k4, l6⟩, c6, e⟩ := ebind_ok e
      obtain ⟨s1, s2, s3⟩ := when_paid ih (by decide) r1 c6
      dsimp only at e
      have hk : allL N [k1, k2, k3, k4] := ⟨p3, q3, r3, s3, trivial⟩
      have hz : szL [k1, k2, k3, k4] = sz k1 + (sz k2 + (sz k3 + sz k4)) := by simp [szL]
      rw [ite_rd] at e
      split at e
      · obtain ⟨⟨u2, l8⟩, d1, d2⟩ := ebind_ok e
        obtain ⟨f1, f2, -⟩ := s1.mneed (by decide) d1
        cases d2
        exact ⟨f1, by rw [one_sz, hz]; (try dsimp only); omega, one_all (at_ 2 (by decide) _) hk⟩
      · obtain ⟨⟨b, l8⟩, d1, d2⟩ := ebind_ok e
        obtain ⟨s4, s5, s6⟩ := ih .body _ _ _ _ s1 trivial d1
        cases d2
        dsimp only [exW] at s5
        exact ⟨s4, by rw [one_sz, szL_app, hz]; (try dsimp only); omega, one_all (at_ 2 (by decide) _) (allL_app hk s6)⟩
    | program a =>
      rw [pRead] at e
      show Gd N r ∧ szL xs + 6 * r.length ≤ 6 * l.length + 0 ∧ allL N xs
      split at e
      · obtain ⟨⟨x, l1⟩, e1, e2⟩ := ebind_ok e
        obtain ⟨i1, i2, i3⟩ := ih .record _ _ _ _ hG trivial e1
        obtain ⟨⟨y, l2⟩, e3, e4⟩ := ebind_ok e2
        obtain ⟨j1, j2, j3⟩ := ih (.program a) _ _ _ _ i1 trivial e3
        cases e4
        dsimp only [exW] at i2 j2
        exact ⟨j1, by rw [szL_app]; (try dsimp only); omega, allL_app i3 j3⟩
      · split at e
        · obtain ⟨⟨x, l1⟩, e1, e2⟩ := ebind_ok e
          obtain ⟨i1, i2, i3⟩ := ih .proc _ _ _ _ hG trivial e1
          obtain ⟨⟨y, l2⟩, e3, e4⟩ := ebind_ok e2
          obtain ⟨j1, j2, j3⟩ := ih (.program a) _ _ _ _ i1 trivial e3
          cases e4
          dsimp only [exW] at i2 j2
          exact ⟨j1, by rw [szL_app]; (try dsimp only); omega, allL_app i3 j3⟩
        · cases e
          exact ⟨hG, by rw [nil_sz]; (try dsimp only); omega, nil_all⟩
end
end Go.Proofs.YtdibcllakkjegaaGreatDoor

/-
  parser: mathematics of the law ParserStands.
-/
set_option linter.unusedSimpArgs false
set_option linter.unusedVariables false
namespace Go.Proofs.YtdibcllakkjegaaGreatDoor
open Go Go.Proofs Go.RowKit

theorem sq_st : ∀ (f a : Nat) (l : List UInt8), l.length < f → ∀ t ∈ (sq f a l).1, a ≤ t.2.2 ∧ t.2.2 ≤ a + l.length ∧ t.2.1 <+: l.drop (t.2.2 - a)
  | 0, _, _, h, _, _ => by omega
  | f + 1, a, l, h, t, ht => by
    rcases sq_cases f a l with ⟨-, -, e⟩ | ⟨k, m, hk, hm, hne, hl, -, he, e⟩ | ⟨k, x, z, hk, hm, hx, hl, -, -, -, -, -, e⟩
    · rw [e] at ht
      have : t = (3, [], a + l.length) := by simpa using ht
      subst this
      exact ⟨by simp, Nat.le_refl _, List.nil_prefix⟩
    · rw [e] at ht; simp at ht
    · have hp : 0 < x.length := List.length_pos_iff.2 hx
      rw [e] at ht
      rcases List.mem_cons.1 ht with rfl | ht
      · refine ⟨by simp, by dsimp only; omega, ?_⟩
        dsimp only
        rw [show a + k - a = k by omega, hm]
        exact List.prefix_append x z
      · obtain ⟨i1, i2, i3⟩ := sq_st f (a + k + x.length) z (by omega) t ht
        refine ⟨by omega, by omega, ?_⟩
        have hz : z = l.drop (k + x.length) := by rw [← List.drop_drop, hm, List.drop_left]
        rw [hz, List.drop_drop, show k + x.length + (t.2.2 - (a + k + x.length)) = t.2.2 - a by omega] at i3
        exact i3
/-- What the law asks of a node. -/
def NS (s : ByteArray) (k a : Int) (t : ByteArray) : Prop := (0 ≤ a ∧ a ≤ s.size) ∧ ((k = 4 ∨ k = 10 ∨ k = 16 ∨ k = 17 ∨ k = 18 ∨ k = 19 ∨ k = 20 ∨ k = 23) → bytes t <+: (bytes s).drop a.toNat ∧ bytes t ≠ []) ∧ (k = 21 → bytes t <+: (bytes s).drop a.toNat)
theorem tok_st {s : ByteArray} (he : (scR s).2.2 = 0) {t : Tk} (ht : t ∈ (scR s).1) : (0 ≤ t.a ∧ t.a ≤ s.size) ∧ bytes t.t <+: (bytes s).drop t.a.toNat := by
  have hz := scan_long he
  obtain ⟨q, e, -⟩ := scR_ok hz he
  rw [e] at ht
  obtain ⟨u, hu, rfl⟩ := List.mem_map.1 ht
  obtain ⟨h1, h2, h3⟩ := sq_st _ 0 (bytes s) (Nat.lt_succ_self _) u hu
  rw [bytes_length] at h2
  refine ⟨⟨Int.natCast_nonneg _, by show ((u.2.2 : Nat) : Int) ≤ _; omega⟩, ?_⟩
  show bytes (str u.2.1) <+: (bytes s).drop ((u.2.2 : Nat) : Int).toNat
  rw [bytes_str, Int.toNat_natCast]
  exact h3
theorem stands_math {k : Nat} {s : ByteArray} {x : Syn} (hz : s.size ≤ 1500) (h : pAns k s = .ok x) : sz x < 20000 ∧ allN (NS s) x := by
  obtain ⟨he, V, e, f, xs, hV, hok, h1, hx, -⟩ := pAns_ok h
  have hT : ∀ t ∈ V ++ [tE e], Tok (NS s) t := fun t ht => by
    obtain ⟨⟨h1, h2⟩, h3⟩ := tok_st he (hV ▸ ht)
    exact ⟨fun k hk u => ⟨⟨h1, h2⟩, fun q => absurd (by omega) hk, fun q => absurd (by omega) hk⟩, ⟨⟨h1, h2⟩, fun q => by omega, fun _ => h3⟩, fun hn k => ⟨⟨h1, h2⟩, fun _ => ⟨h3, hn⟩, fun _ => h3⟩⟩
  have hG : Gd (NS s) (V ++ [tE e]) := ⟨V, e, rfl, fun t ht => (hok t ht).1.1, hT⟩
  have hw : (exW (NS s) (entW k (V ++ [tE e]))).2 ∧ (exW (NS s) (entW k (V ++ [tE e]))).1 = 0 := by
    unfold entW
    split <;> exact ⟨trivial, rfl⟩
  obtain ⟨-, p2, p3⟩ := paid_read f _ 0 _ _ _ hG hw.1 h1
  rw [hw.2] at p2
  have hVl : V.length ≤ s.size := by
    obtain ⟨V', e', hV', -, hl⟩ := scan_form (by omega) he
    rw [hV] at hV'
    have := congrArg List.length hV'
    simp at this
    omega
  rw [List.length_append, List.length_singleton] at p2
  have hh := hG.hd
  have hz0 : sz (.mk 0 (pHd (V ++ [tE e])).a ⟨#[]⟩ 0 xs) < 20000 := by rw [sz]; omega
  rw [hx]
  unfold entT
  split
  · refine ⟨hz0, ?_⟩
    rw [allN]
    exact ⟨hh.at_ 0 (by decide) _, p3⟩
  · cases xs with
    | nil =>
      show sz (.mk 0 0 ⟨#[]⟩ 0 []) < 20000 ∧ allN (NS s) (.mk 0 0 ⟨#[]⟩ 0 [])
      refine ⟨by rw [sz, szL]; omega, ?_⟩
      rw [allN]
      exact ⟨⟨⟨Int.le_refl 0, by omega⟩, fun q => by omega, fun q => by omega⟩, trivial⟩
    | cons y ys =>
      show sz y < 20000 ∧ allN (NS s) y
      rw [szL] at p2
      rw [allL] at p3
      exact ⟨by omega, p3.1⟩
/-- Errors stand at tokens. -/
def Eo {α : Type} (f : Nat) (m : Rd α) : Prop := Suf f m ∧ Ne1 f m ∧ ∀ l a c, l ≠ [] → m f l = .error (a, c) → (a = 0 ∨ ∃ t ∈ l, a = t.a)
theorem hd_mem {l : List Tk} (h : l ≠ []) : pHd l ∈ l := by
  obtain ⟨t, l, rfl⟩ := List.exists_cons_of_ne_nil h
  exact List.mem_cons_self
theorem eoCls : Cls (fun _ f m _ => Eo f m) (fun _ _ => True) where
  bind {_ _ f m _ k _} h g := ⟨Suf.bind h.1 (fun x => (g x).1), Ne1.bind h.2.1 (fun x => (g x).2.1), fun l a c hl e => by
    cases hm : m f l with
    | error p =>
      have : mBind m k f l = .error p := by show (m f l >>= _) = _; rw [hm]; rfl
      rw [this] at e
      cases e
      exact h.2.2 l a c hl hm
    | ok q =>
      obtain ⟨x, l1⟩ := q
      have : mBind m k f l = k x f l1 := by show (m f l >>= _) = _; rw [hm]; rfl
      rw [this] at e
      rcases (g x).2.2 l1 a c (h.2.1 _ _ _ hl hm) e with q | ⟨t, ht, q⟩
      · exact .inl q
      · exact .inr ⟨t, (h.1 _ _ _ hm).mem ht, q⟩⟩
  ite h g := by split <;> assumption
  ret := ⟨Suf.ret, neCls.ret (x := _), fun _ _ _ _ e => by cases e⟩
  peek := ⟨Suf.peek, neCls.peek, fun _ _ _ _ e => by cases e⟩
  take := ⟨Suf.take, neCls.take, fun _ _ _ _ e => by cases e⟩
  is := ⟨Suf.is, neCls.is, fun _ _ _ _ e => by cases e⟩
  op := ⟨Suf.op, neCls.op, fun _ _ _ _ e => by cases e⟩
  next := ⟨Suf.next, neCls.next, fun _ _ _ _ e => by cases e⟩
  named := ⟨Suf.named, neCls.named, fun _ _ _ _ e => by cases e⟩
  name := ⟨Suf.name, neCls.name, fun l a c hl e => by unfold mName pName at e; split at e <;> cases e; exact .inr ⟨_, hd_mem hl, rfl⟩⟩
  need := ⟨Suf.need, neCls.need, fun l a c hl e => by unfold mNeed at e; split at e <;> cases e; exact .inr ⟨_, hd_mem hl, rfl⟩⟩
  enter {_ d _ _} _ := ⟨Suf.enter, neCls.enter (d' := d) trivial, fun l a c hl e => by
    unfold mEnter at e
    split at e
    · split at e <;> cases e; exact .inr ⟨_, hd_mem hl, rfl⟩
    · cases e; exact .inr ⟨_, hd_mem hl, rfl⟩⟩
  deep {_ d _} _ := ⟨Suf.deep, neCls.deep (d' := d) trivial, fun l a c hl e => by unfold mDeep at e; split at e <;> cases e; exact .inr ⟨_, hd_mem hl, rfl⟩⟩
  num := ⟨Suf.num, neCls.num, fun l a c hl e => by
    unfold mNum at e
    split at e
    · split at e <;> cases e; exact .inr ⟨_, hd_mem hl, rfl⟩
    · cases e; exact .inr ⟨_, hd_mem hl, rfl⟩⟩
  succ _ := trivial
  up h e _ := ⟨fun l x l' q => h.1 l x l' ((e l).symm.trans q), fun l x l' hl q => h.2.1 l x l' hl ((e l).symm.trans q), fun l a c hl q => h.2.2 l a c hl ((e l).symm.trans q)⟩
  zero := ⟨suf_read _ _ _, ne_read _ _ _, fun l a c _ e => by unfold mRead at e; rw [pRead] at e; cases e; exact .inl rfl⟩
theorem err_at {k : Nat} {s : ByteArray} {a : Int} {c : Nat} (h : pAns k s = .error (a, c)) : 0 ≤ a ∧ a ≤ s.size ∨ 65536 < s.size := by
  rcases Nat.lt_or_ge 65536 s.size with hz | hz
  · exact .inr hz
  left
  unfold pAns at h
  by_cases he : (scR s).2.2 = 0
  · rw [if_pos he] at h
    obtain ⟨V, e, hV, -, -⟩ := scan_form hz he
    have hne : (scR s).1 ≠ [] := by rw [hV]; simp
    have key : a = 0 ∨ ∃ t ∈ (scR s).1, a = t.a := by
      unfold pTk at h
      cases hp : pLim (entW k (scR s).1) 0 (scR s).1 with
      | error p =>
        rw [hp] at h
        cases h
        unfold pLim at hp
        split at hp
        · exact (eoCls.read _ _ 0 0 trivial).2.2 _ _ _ hne hp
        · cases hp; exact .inl rfl
      | ok q =>
        obtain ⟨xs, r⟩ := q
        rw [hp] at h
        obtain ⟨f, hf⟩ := pLim_ok hp
        unfold pDone at h
        dsimp only at h
        split at h
        · cases h
        · cases h
          exact .inr ⟨_, (suf_read f _ _ _ _ _ hf).mem (hd_mem (ne_read f _ _ _ _ _ hne hf)), rfl⟩
    rcases key with rfl | ⟨t, ht, rfl⟩
    · exact ⟨Int.le_refl 0, by omega⟩
    · exact (tok_st he ht).1
  · rw [if_neg he] at h
    cases h
    have := (scR_bad hz he).2.2
    exact ⟨Int.natCast_nonneg _, by omega⟩
end Go.Proofs.YtdibcllakkjegaaGreatDoor

/-
  strings.HasPrefix.
-/
namespace Go.Proofs.YtdibcllakkjegaaGreatDoor
open Go Go.Proofs Go.RowKit

def hpRen : Go.Shelf.Ren := ⟨fun | 99 => 38 | 206 => 75 | n => n, fun | 9 => 9 | 4 => 4 | 3 => 3 | n => n, fun | n => n⟩
theorem hpLays : Go.Proofs.Lays.n99 Tryz.prog hpRen := {
  mixed := by kernel_rfl
  f99 := Tryz.func38.trans (congrArg some (by kernel_rfl))
  f206 := Tryz.func75.trans (congrArg some (by kernel_rfl))
  t3 := Tryz.underlying3
  a3 := Tryz.isAgg3
  z3 := Tryz.sizeOf3
  v3 := Tryz.zeroValue3
  t4 := Tryz.underlying4
  a4 := Tryz.isAgg4
  z4 := Tryz.sizeOf4
  v4 := Tryz.zeroValue4
  t9 := Tryz.underlying9
  a9 := Tryz.isAgg9
  z9 := Tryz.sizeOf9
  v9 := Tryz.zeroValue9 }
theorem hasPrefix_at (s p : ByteArray) (w : World) : Calls Tryz.prog 38 #[.string s, .string p] w fun e w' => e = .returned (.bool (Lib.hasPrefix s.data.toList p.data.toList)) ∧ w' = w := Any.strings_HasPrefix hpLays s p w
end Go.Proofs.YtdibcllakkjegaaGreatDoor

