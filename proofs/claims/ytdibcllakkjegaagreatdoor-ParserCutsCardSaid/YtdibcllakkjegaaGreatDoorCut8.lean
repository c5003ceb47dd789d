import Derived.Deep.AppendLies
import Derived.Test.YtdibcllakkjegaaGreatDoorCut7

set_option linter.unusedVariables false
/-
  parser: boxes, rows of trees that are the call's own, what a construct leaves.
-/
set_option linter.unusedSimpArgs false
set_option linter.unusedVariables false
namespace Go.Proofs.YtdibcllakkjegaaGreatDoor
open Go Go.Proofs Go.RowKit
structure Bx5 (W : World) (p : Nat) (v0 v1 v2 v3 v4 : Value) : Prop where
  c0 : W.cell? ⟨p, 0, none⟩ = some v0
  c1 : W.cell? ⟨p, 1, none⟩ = some v1
  c2 : W.cell? ⟨p, 2, none⟩ = some v2
  c3 : W.cell? ⟨p, 3, none⟩ = some v3
  c4 : W.cell? ⟨p, 4, none⟩ = some v4
  free : ∀ j, W.frozen? ⟨p, j, none⟩ = false
  lt : p < W.heap.size
theorem Bx5.new (w : World) (v0 v1 v2 v3 v4 : Value) : Bx5 (w.alloc (Obj.cells #[v0, v1, v2, v3, v4] 25)) w.heap.size v0 v1 v2 v3 v4 :=
  ⟨World.cell?_alloc_new _ _ _ _, World.cell?_alloc_new _ _ _ _, World.cell?_alloc_new _ _ _ _, World.cell?_alloc_new _ _ _ _, World.cell?_alloc_new _ _ _ _, fun _ => World.frozen?_alloc_new _ _ _ _, by simp⟩
theorem Bx5.butt {R p : Nat} {W W' : World} {v0 v1 v2 v3 v4 : Value} (h : Bx5 W p v0 v1 v2 v3 v4) (hp : p ≠ R) (hb : Butt R W W') : Bx5 W' p v0 v1 v2 v3 v4 := by
  obtain ⟨c0, c1, c2, c3, c4, hf, hl⟩ := h
  exact ⟨(hb.cell (p := ⟨p, 0, none⟩) hl hp).trans c0, (hb.cell (p := ⟨p, 1, none⟩) hl hp).trans c1, (hb.cell (p := ⟨p, 2, none⟩) hl hp).trans c2, (hb.cell (p := ⟨p, 3, none⟩) hl hp).trans c3, (hb.cell (p := ⟨p, 4, none⟩) hl hp).trans c4, fun j => (hb.frozen (p := ⟨p, j, none⟩) hl hp).trans (hf j), Nat.lt_of_lt_of_le hl hb.size⟩
theorem Bx5.below {p : Nat} {W W' : World} {v0 v1 v2 v3 v4 : Value} (h : Bx5 W p v0 v1 v2 v3 v4) (hb : Below W.heap.size W W') : Bx5 W' p v0 v1 v2 v3 v4 := by
  obtain ⟨c0, c1, c2, c3, c4, hf, hl⟩ := h
  exact ⟨(hb.cell (p := ⟨p, 0, none⟩) hl).trans c0, (hb.cell (p := ⟨p, 1, none⟩) hl).trans c1, (hb.cell (p := ⟨p, 2, none⟩) hl).trans c2, (hb.cell (p := ⟨p, 3, none⟩) hl).trans c3, (hb.cell (p := ⟨p, 4, none⟩) hl).trans c4, fun j => (hb.frozen (p := ⟨p, j, none⟩) hl).trans (hf j), Nat.lt_of_lt_of_le hl hb.size⟩
theorem Bx5.alloc {p : Nat} {W : World} {v0 v1 v2 v3 v4 : Value} (h : Bx5 W p v0 v1 v2 v3 v4) (o : Obj) : Bx5 (W.alloc o) p v0 v1 v2 v3 v4 := h.below ((Below.refl _ _).alloc (Nat.le_refl _) o)
structure Bx3 (W : World) (p : Nat) (v0 v1 v2 : Value) : Prop where
  c0 : W.cell? ⟨p, 0, none⟩ = some v0
  c1 : W.cell? ⟨p, 1, none⟩ = some v1
  c2 : W.cell? ⟨p, 2, none⟩ = some v2
  free : ∀ j, W.frozen? ⟨p, j, none⟩ = false
  lt : p < W.heap.size
theorem Bx3.new (w : World) (v0 v1 v2 : Value) : Bx3 (w.alloc (Obj.cells #[v0, v1, v2] 47)) w.heap.size v0 v1 v2 :=
  ⟨World.cell?_alloc_new _ _ _ _, World.cell?_alloc_new _ _ _ _, World.cell?_alloc_new _ _ _ _, fun _ => World.frozen?_alloc_new _ _ _ _, by simp⟩
theorem Bx3.butt {R p : Nat} {W W' : World} {v0 v1 v2 : Value} (h : Bx3 W p v0 v1 v2) (hp : p ≠ R) (hb : Butt R W W') : Bx3 W' p v0 v1 v2 := by
  obtain ⟨c0, c1, c2, hf, hl⟩ := h
  exact ⟨(hb.cell (p := ⟨p, 0, none⟩) hl hp).trans c0, (hb.cell (p := ⟨p, 1, none⟩) hl hp).trans c1, (hb.cell (p := ⟨p, 2, none⟩) hl hp).trans c2, fun j => (hb.frozen (p := ⟨p, j, none⟩) hl hp).trans (hf j), Nat.lt_of_lt_of_le hl hb.size⟩
theorem Bx3.below {p : Nat} {W W' : World} {v0 v1 v2 : Value} (h : Bx3 W p v0 v1 v2) (hb : Below W.heap.size W W') : Bx3 W' p v0 v1 v2 := by
  obtain ⟨c0, c1, c2, hf, hl⟩ := h
  exact ⟨(hb.cell (p := ⟨p, 0, none⟩) hl).trans c0, (hb.cell (p := ⟨p, 1, none⟩) hl).trans c1, (hb.cell (p := ⟨p, 2, none⟩) hl).trans c2, fun j => (hb.frozen (p := ⟨p, j, none⟩) hl).trans (hf j), Nat.lt_of_lt_of_le hl hb.size⟩
theorem Bx3.alloc {p : Nat} {W : World} {v0 v1 v2 : Value} (h : Bx3 W p v0 v1 v2) (o : Obj) : Bx3 (W.alloc o) p v0 v1 v2 := h.below ((Below.refl _ _).alloc (Nat.le_refl _) o)
def Run {α : Type} (m : Nat → List Tk → Except (Int × Nat) (α × List Tk)) (st : RSt) (x : α) (st' : RSt) : Prop :=
  match st with
  | .bad a e => st' = .bad a e
  | .ok l => (∃ l', st' = .ok l' ∧ l' ≠ [] ∧ l'.length ≤ l.length ∧ ∃ N, ∀ f, N ≤ f → m f l = .ok (x, l')) ∨ (∃ a e, e ≠ 0 ∧ st' = .bad a e ∧ ∃ N, ∀ f, N ≤ f → m f l = .error (a, e))
abbrev Stp (w : Want) (d : Nat) (st : RSt) (xs : List Syn) (st' : RSt) : Prop := Run (fun f l => pRead f w d l) st xs st'
abbrev PT (R : Nat) (L : List Tk) (wnt : Want) (d : Nat) (st : RSt) (W : World) : Ending → World → Prop := fun e W' =>
  ∃ x v st', e = .returned v ∧ synAt W.heap.size W' x v ∧ Stp wnt d st [x] st' ∧ At R L W' d st' ∧ Butt R W W'
theorem synAt.shape {lo : Nat} {W : World} {x : Syn} {v : Value} (h : synAt lo W x v) : ∃ k a t n ao l c ks, x = .mk k a t n ks ∧ v = .agg #[.int .i64 k, .int .i64 a, .string t, .int .i64 n, .slice ao l c] ∧ kidsAt lo W ks (.slice ao l c) := by
  obtain ⟨k, a, t, n, ks⟩ := x
  obtain ⟨kv, rfl, hk⟩ := synAt_mk.mp h
  obtain ⟨ao, l, c, rfl⟩ := hk.slice
  exact ⟨k, a, t, n, ao, l, c, ks, rfl, rfl, hk⟩
theorem fin_tree {R : Nat} {L : List Tk} {d0 d : Nat} {st0 st : RSt} {w W : World} {u0 u1 u2 u3 u4 : Value} {lo : Nat} (h0 : At R L w d0 st0) (hb : Butt R w W) (ha : At R L W d st) (hB : Bx5 W w.heap.size u0 u1 u2 u3 u4) (hlo : w.heap.size < lo)
    (x : Syn) (v0 v1 v2 v3 v4 : Value) (hx : synAt lo W x (.agg #[v0, v1, v2, v3, v4])) (W' : World)
    (hW : W' = ((((W.setCell ⟨w.heap.size, 0, none⟩ v0).setCell ⟨w.heap.size, 1, none⟩ v1).setCell ⟨w.heap.size, 2, none⟩ v2).setCell ⟨w.heap.size, 3, none⟩ v3).setCell ⟨w.heap.size, 4, none⟩ v4) :
    W'.cell? ⟨w.heap.size, 0, none⟩ = some v0 ∧ W'.cell? ⟨w.heap.size, 1, none⟩ = some v1 ∧ W'.cell? ⟨w.heap.size, 2, none⟩ = some v2 ∧ W'.cell? ⟨w.heap.size, 3, none⟩ = some v3 ∧ W'.cell? ⟨w.heap.size, 4, none⟩ = some v4 ∧
    synAt w.heap.size W' x (.agg #[v0, v1, v2, v3, v4]) ∧ At R L W' d st ∧ Butt R w W' := by
  obtain ⟨q0, q1, q2, q3, q4⟩ := box5 hB.c0 hB.c1 hB.c2 hB.c3 hB.c4 v0 v1 v2 v3 v4 W' hW
  obtain ⟨hf0, nx0, a0, er0, h01, h02, h03⟩ := h0
  obtain ⟨hf, nx, a, er, h1, h2, h3⟩ := ha
  obtain ⟨hr, hbt⟩ := boxed5 h02 hb h2 (Nat.le_refl w.heap.size) v0 v1 v2 v3 v4
  rw [← hW] at hr hbt
  have hfr : From lo W W' := by
    rw [hW]
    exact (((((From.refl lo W).setCell ⟨w.heap.size, 0, none⟩ hlo v0).setCell ⟨w.heap.size, 1, none⟩ hlo v1).setCell ⟨w.heap.size, 2, none⟩ hlo v2).setCell ⟨w.heap.size, 3, none⟩ hlo v3).setCell ⟨w.heap.size, 4, none⟩ hlo v4
  exact ⟨q0, q1, q2, q3, q4, synAt.keep hfr (Nat.le_of_lt hlo) x _ hx, ⟨hf0.butt hbt, nx, a, er, h1, hr, h3⟩, hbt⟩
mutual
def synIn (A : Nat → Prop) (W : World) : Syn → Value → Prop
  | .mk k a t n kids, v => ∃ kv, v = .agg #[.int .i64 k, .int .i64 a, .string t, .int .i64 n, kv] ∧
      ((kids.length = 0 ∧ kv = .slice none 0 0) ∨ ∃ b c, kv = .slice (some ⟨b, 0, none⟩) kids.length c ∧ kids.length ≤ c ∧ c ≤ maxLen ∧ A b ∧ b < W.heap.size ∧ rowIn A W kids b 0)
def rowIn (A : Nat → Prop) (W : World) : List Syn → Nat → Nat → Prop
  | [], _, _ => True
  | x :: r, b, o => (∃ v0 v1 v2 v3 v4, W.cell? ⟨b, o, none⟩ = some v0 ∧ W.cell? ⟨b, o + 1, none⟩ = some v1 ∧ W.cell? ⟨b, o + 2, none⟩ = some v2 ∧ W.cell? ⟨b, o + 3, none⟩ = some v3 ∧ W.cell? ⟨b, o + 4, none⟩ = some v4 ∧ synIn A W x (.agg #[v0, v1, v2, v3, v4])) ∧ rowIn A W r b (o + 5)
end
structure Kept (A : Nat → Prop) (W W' : World) : Prop where
  size : W.heap.size ≤ W'.heap.size
  block : ∀ k, A k → k < W.heap.size → W'.heap[k]? = W.heap[k]?
theorem Kept.cell {A : Nat → Prop} {W W' : World} (h : Kept A W W') {p : Addr} (h1 : A p.block) (h2 : p.block < W.heap.size) : W'.cell? p = W.cell? p := by
  simp only [World.cell?, h.block p.block h1 h2]
mutual
theorem synIn.keep {A B : Nat → Prop} {W W' : World} (hb : Kept A W W') (hl : ∀ k, A k → k < W.heap.size → B k) : ∀ (x : Syn) (v : Value), synIn A W x v → synIn B W' x v
  | .mk k a t n kids, v, h => by
    rw [synIn] at h ⊢
    obtain ⟨kv, e, h⟩ := h
    refine ⟨kv, e, h.imp_right ?_⟩
    rintro ⟨b, c, e1, h1, h2, h3, h4, h5⟩
    exact ⟨b, c, e1, h1, h2, hl b h3 h4, Nat.lt_of_lt_of_le h4 hb.size, rowIn.keep hb hl kids b 0 h3 h4 h5⟩
theorem rowIn.keep {A B : Nat → Prop} {W W' : World} (hb : Kept A W W') (hl : ∀ k, A k → k < W.heap.size → B k) : ∀ (l : List Syn) (b o : Nat), A b → b < W.heap.size → rowIn A W l b o → rowIn B W' l b o
  | [], b, o, _, _, _ => by rw [rowIn]; trivial
  | x :: r, b, o, h3, h4, h => by
    rw [rowIn] at h ⊢
    obtain ⟨⟨v0, v1, v2, v3, v4, c0, c1, c2, c3, c4, hx⟩, hr⟩ := h
    refine ⟨⟨v0, v1, v2, v3, v4, (hb.cell (p := ⟨b, o, none⟩) h3 h4).trans c0, (hb.cell (p := ⟨b, o + 1, none⟩) h3 h4).trans c1, (hb.cell (p := ⟨b, o + 2, none⟩) h3 h4).trans c2, (hb.cell (p := ⟨b, o + 3, none⟩) h3 h4).trans c3, (hb.cell (p := ⟨b, o + 4, none⟩) h3 h4).trans c4, synIn.keep hb hl x _ hx⟩, rowIn.keep hb hl r b (o + 5) h3 h4 hr⟩
end
mutual
theorem synIn_at {lo : Nat} {W : World} : ∀ (x : Syn) (v : Value), synIn (lo ≤ ·) W x v ↔ synAt lo W x v
  | .mk k a t n kids, v => by
    rw [synIn, synAt]
    constructor
    · rintro ⟨kv, e, h⟩
      exact ⟨kv, e, h.imp_right fun ⟨b, c, e1, h1, h2, h3, h4, h5⟩ => ⟨b, c, e1, h1, h2, h3, h4, (rowIn_at kids b 0).mp h5⟩⟩
    · rintro ⟨kv, e, h⟩
      exact ⟨kv, e, h.imp_right fun ⟨b, c, e1, h1, h2, h3, h4, h5⟩ => ⟨b, c, e1, h1, h2, h3, h4, (rowIn_at kids b 0).mpr h5⟩⟩
theorem rowIn_at {lo : Nat} {W : World} : ∀ (l : List Syn) (b o : Nat), rowIn (lo ≤ ·) W l b o ↔ rowAt lo W l b o
  | [], b, o => by rw [rowIn, rowAt]
  | x :: r, b, o => by
    rw [rowIn, rowAt]
    constructor
    · rintro ⟨⟨v0, v1, v2, v3, v4, c0, c1, c2, c3, c4, hx⟩, hr⟩
      exact ⟨⟨v0, v1, v2, v3, v4, c0, c1, c2, c3, c4, (synIn_at x _).mp hx⟩, (rowIn_at r b (o + 5)).mp hr⟩
    · rintro ⟨⟨v0, v1, v2, v3, v4, c0, c1, c2, c3, c4, hx⟩, hr⟩
      exact ⟨⟨v0, v1, v2, v3, v4, c0, c1, c2, c3, c4, (synIn_at x _).mpr hx⟩, (rowIn_at r b (o + 5)).mpr hr⟩
end
def flatIn (A : Nat → Prop) (W : World) : List Syn → List Value → Prop
  | [], cs => cs = []
  | x :: r, cs => ∃ v0 v1 v2 v3 v4 cs', cs = [v0, v1, v2, v3, v4] ++ cs' ∧ synIn A W x (.agg #[v0, v1, v2, v3, v4]) ∧ flatIn A W r cs'
theorem flatIn.keep {A B : Nat → Prop} {W W' : World} (hb : Kept A W W') (hl : ∀ k, A k → k < W.heap.size → B k) : ∀ (l : List Syn) (cs : List Value), flatIn A W l cs → flatIn B W' l cs
  | [], cs, h => h
  | x :: r, cs, ⟨v0, v1, v2, v3, v4, cs', e, hx, hr⟩ => ⟨v0, v1, v2, v3, v4, cs', e, synIn.keep hb hl x _ hx, flatIn.keep hb hl r cs' hr⟩
theorem flatIn.app {A : Nat → Prop} {W : World} {ys : List Syn} {ds : List Value} (hy : flatIn A W ys ds) : ∀ (l : List Syn) (cs : List Value), flatIn A W l cs → flatIn A W (l ++ ys) (cs ++ ds)
  | [], cs, h => by rw [show cs = [] from h]; exact hy
  | x :: r, cs, ⟨v0, v1, v2, v3, v4, cs', e, hx, hr⟩ => ⟨v0, v1, v2, v3, v4, cs' ++ ds, by rw [e, List.append_assoc], hx, flatIn.app hy r cs' hr⟩
theorem flatIn.len {A : Nat → Prop} {W : World} : ∀ (l : List Syn) (cs : List Value), flatIn A W l cs → cs.length = l.length * 5
  | [], cs, h => by rw [show cs = [] from h]; rfl
  | x :: r, cs, ⟨v0, v1, v2, v3, v4, cs', e, hx, hr⟩ => by rw [e, List.length_append, flatIn.len r cs' hr]; simp only [List.length_cons, List.length_nil]; omega
abbrev offRow (lo : Nat) (v : Value) : Nat → Prop := fun b => lo ≤ b ∧ v.ownBlock ≠ some b
def ownT (lo : Nat) (W : World) (xs : List Syn) (v : Value) : Prop := ∃ cs, W.ownsRow lo 25 5 v xs.length cs ∧ flatIn (offRow lo v) W xs cs
theorem ownT.nil (lo : Nat) (W : World) : ownT lo W [] (.slice none 0 0) := ⟨[], World.ownsRow_nil .., rfl⟩
theorem ownT.slice {lo : Nat} {W : World} {xs : List Syn} {v : Value} (h : ownT lo W xs v) : ∃ ao c, v = .slice ao xs.length c := by
  obtain ⟨cs, ⟨-, h2⟩, -⟩ := h
  rcases h2 with ⟨rfl, hn⟩ | ⟨g, cap, cur, rfl, -⟩
  · exact ⟨none, 0, by rw [hn]⟩
  · exact ⟨_, _, rfl⟩
theorem ownT.keep {lo l2 : Nat} {W W' : World} {xs : List Syn} {v : Value} (h : ownT lo W xs v) (hl : l2 ≤ lo) (hb : From lo W W') : ownT l2 W' xs v := by
  obtain ⟨cs, ⟨h1, h2⟩, h3⟩ := h
  refine ⟨cs, ⟨h1, h2.imp_right ?_⟩, flatIn.keep ⟨hb.size, fun k hk h => hb.block k hk.1 h⟩ (fun k hk _ => ⟨Nat.le_trans hl hk.1, hk.2⟩) _ _ h3⟩
  rintro ⟨g, cap, cur, e, g1, g2, r⟩
  exact ⟨g, cap, cur, e, Nat.le_trans hl g1, (hb.block g g1 (Array.getElem?_eq_some_iff.1 g2).1).trans g2, r⟩
theorem flat_row {A : Nat → Prop} {W : World} {b : Nat} : ∀ (l : List Syn) (cs : List Value) (o : Nat), flatIn A W l cs → (∀ j u, cs[j]? = some u → W.cell? ⟨b, o + j, none⟩ = some u) → rowIn A W l b o
  | [], cs, o, _, _ => by rw [rowIn]; trivial
  | x :: r, cs, o, ⟨v0, v1, v2, v3, v4, cs', e, hx, hr⟩, hc => by
    subst e
    rw [rowIn]
    refine ⟨⟨v0, v1, v2, v3, v4, hc 0 v0 rfl, hc 1 v1 rfl, hc 2 v2 rfl, hc 3 v3 rfl, hc 4 v4 rfl, hx⟩, flat_row r cs' (o + 5) hr fun j u hu => ?_⟩
    rw [show o + 5 + j = o + (j + 5) by omega]
    exact hc (j + 5) u hu
theorem ownT.kids {lo : Nat} {W : World} {xs : List Syn} {v : Value} (h : ownT lo W xs v) : kidsAt lo W xs v := by
  obtain ⟨cs, ⟨h1, h2⟩, h3⟩ := h
  rcases h2 with ⟨rfl, hn⟩ | ⟨g, cap, cur, rfl, g1, g2, g3, g4, g5, g6⟩
  · exact .inl ⟨hn, rfl⟩
  · have hlt := (Array.getElem?_eq_some_iff.1 g2).1
    refine .inr ⟨g, cap, rfl, g3, g4, g1, hlt, (rowIn_at xs g 0).mp ?_⟩
    have hf := flatIn.keep (A := offRow lo (.slice (some ⟨g, 0, none⟩) xs.length cap)) (B := (lo ≤ ·)) ⟨Nat.le_refl _, fun _ _ _ => rfl⟩ (fun k hk _ => hk.1) _ _ h3
    refine flat_row xs cs 0 hf fun j u hu => ?_
    rw [Nat.zero_add]
    have hj : j < xs.length * 5 := by
      have := (List.getElem?_eq_some_iff.1 hu).1
      rw [h1] at this
      exact this
    rw [← g6, List.getElem?_take_of_lt hj] at hu
    simp only [World.cell?, g2]
    rw [← Array.getElem?_toList] 
    simpa using hu
theorem infoSyn : (Tryz.prog.info? 25).map (fun i => (i.zero, i.size, i.bytes)) = some (some (.agg #[.int .i64 0, .int .i64 0, .string ⟨#[]⟩, .int .i64 0, .slice none 0 0]), 5, 64) := by kernel_rfl
theorem grownBy_froms {R : Nat} {W w9 : World} {v : Value} (h : W.grownBy w9 v.ownBlock) {lo : Nat} (hv : ∀ b, v.ownBlock = some b → lo ≤ b) (hR : R < lo) (hW : lo ≤ W.heap.size) : Below lo W w9 :=
  ⟨h.os, h.tape, h.output, h.size, fun k hk => h.block k (by omega) (fun e => by have := hv k e.symm; omega)⟩
theorem ownT.lo {lo : Nat} {W : World} {xs : List Syn} {v : Value} (h : ownT lo W xs v) : ∀ b, v.ownBlock = some b → lo ≤ b ∧ b < W.heap.size := by
  obtain ⟨cs, ⟨h1, h2⟩, h3⟩ := h
  rcases h2 with ⟨rfl, -⟩ | ⟨g, cap, cur, rfl, g1, g2, -⟩
  · intro b e; cases e
  · intro b e; cases e; exact ⟨g1, (Array.getElem?_eq_some_iff.1 g2).1⟩
theorem wpList_append_tree {ops : Array Oper} {rest : List Oper} {o : Oper} {a : Act} {W : World} {Q : Exit → Act → World → Prop}
    (hg : o.guard = none) (s x : Operand) (hop : o.op = Op.call { callee := Callee.builtin Builtin.append, args := #[s, x], argTypes := #[23, 23] })
    (lo : Nat) (v : Value) (xs : List Syn) (hs : a.eval s = v) (hown : ownT lo W xs v) (hl : xs.length ≤ 1200000) (hbase : lo ≤ W.heap.size)
    (ad : Nat) (z : Syn) (v0 v1 v2 v3 v4 : Value) (hx : a.eval x = .slice (some ⟨ad, 0, none⟩) 1 1) (hz : synIn (offRow lo v) W z (.agg #[v0, v1, v2, v3, v4])) (h1 : v0.oneCell' = true ∧ v1.oneCell' = true ∧ v2.oneCell' = true ∧ v3.oneCell' = true ∧ v4.oneCell' = true)
    (hc0 : W.cell? ⟨ad, 0, none⟩ = some v0) (hc1 : W.cell? ⟨ad, 1, none⟩ = some v1) (hc2 : W.cell? ⟨ad, 2, none⟩ = some v2) (hc3 : W.cell? ⟨ad, 3, none⟩ = some v3) (hc4 : W.cell? ⟨ad, 4, none⟩ = some v4)
    (hK : ∀ (v' : Value) (ao : Option Addr) (cap : Nat) (w9 : World), v' = .slice ao (xs.length + 1) cap → ownT lo w9 (xs ++ [z]) v' → W.grownBy w9 v.ownBlock → wpList Tryz.prog ops Q rest (a.put o.dst v') w9) :
    wpList Tryz.prog ops Q (o :: rest) a W := by
  obtain ⟨i0, hi, hz0, hz1, hz2⟩ := info_parts infoSyn
  obtain ⟨cs, hrow, hflat⟩ := hown
  have hown2 : ∀ b, v.ownBlock = some b → lo ≤ b ∧ b < W.heap.size := ownT.lo ⟨cs, hrow, hflat⟩
  refine wpList_append_lies W hg s x 23 hop lo 25 i0 _ 5 64 Tryz.underlying23 hi hz0 hz1 hz2 rfl (by decide) v xs.length cs hs hrow ⟨ad, 0, none⟩ 1 1 [v0, v1, v2, v3, v4] hx rfl ?_ (by intro u hu; simp at hu; rcases hu with rfl | rfl | rfl | rfl | rfl <;> first | exact h1.1 | exact h1.2.1 | exact h1.2.2.1 | exact h1.2.2.2.1 | exact h1.2.2.2.2) (by decide) (by unfold maxLen; omega) (by omega) hbase _ rfl ?_
  · intro j u hu
    match j, hu with
    | 0, hu => simp at hu; subst hu; rw [tk_addr]; exact hc0
    | 1, hu => simp at hu; subst hu; rw [tk_addr]; exact hc1
    | 2, hu => simp at hu; subst hu; rw [tk_addr]; exact hc2
    | 3, hu => simp at hu; subst hu; rw [tk_addr]; exact hc3
    | 4, hu => simp at hu; subst hu; rw [tk_addr]; exact hc4
  · intro g cap w9 hown9 hgrow hgg hg9
    have hkept : Kept (offRow lo v) W w9 := ⟨hgrow.size, fun k hk h => hgrow.block k h (fun e => hk.2 e.symm)⟩
    have hset : ∀ k, offRow lo v k → k < W.heap.size → offRow lo (.slice (some ⟨g, 0, none⟩) (xs.length + 1) cap) k := fun k hk h => ⟨hk.1, fun e => by
      have e2 : g = k := by cases e; rfl
      rcases hgg with h2 | h2
      · exact hk.2 (by rw [h2, e2])
      · omega⟩
    refine hK _ _ _ w9 rfl ⟨cs ++ [v0, v1, v2, v3, v4], ?_, ?_⟩ hgrow
    · rw [List.length_append]; exact hown9
    · exact flatIn.app (ys := [z]) (show flatIn _ _ [z] [v0, v1, v2, v3, v4] from ⟨v0, v1, v2, v3, v4, [], rfl, synIn.keep hkept hset z _ hz, rfl⟩) xs cs (flatIn.keep hkept hset xs cs hflat)
def GT (f : Nat) (R : Nat) (L : List Tk) (args : Array Value) (wnt : Want) (d : Nat) (st : RSt) : Prop := ∀ W : World, At R L W d st → Calls Tryz.prog f args W (PT R L wnt d st W)
set_option maxRecDepth 20000 in
theorem pcondition_any {R : Nat} {L : List Tk} {d : Nat} {st : RSt} {w : World} (h : At R L w d st) (K : GT 77 R L #[.pointer (some ⟨R, 0, none⟩), .int .i64 0] (.lvl 0) d st) :
    Calls Tryz.prog 41 #[.pointer (some ⟨R, 0, none⟩)] w (PT R L (.lvl 0) d st w) := by
  have KL := Lib.hid K
  clear K
  have HA0 := Lib.hid h
  have HLT := Lib.hid h.fix.lt
  have hA := h.alloc (Obj.cells #[.int .i64 0, .int .i64 0, .string ⟨#[]⟩, .int .i64 0, .slice none 0 0] 25)
  have hB := (Butt.refl R w).alloc h.fix.lt (Obj.cells #[.int .i64 0, .int .i64 0, .string ⟨#[]⟩, .int .i64 0, .slice none 0 0] 25)
  have hX := Bx5.new w (.int .i64 0) (.int .i64 0) (.string ⟨#[]⟩) (.int .i64 0) (.slice none 0 0)
  have hpR : w.heap.size ≠ R := fun e => absurd h.fix.lt (by rw [e]; exact Nat.lt_irrefl _)
  have hls : w.heap.size < (w.alloc (Obj.cells #[.int .i64 0, .int .i64 0, .string ⟨#[]⟩, .int .i64 0, .slice none 0 0] 25)).heap.size := by simp
  have A0 := Lib.hid hA; have B0 := Lib.hid hB; have XR0 := Lib.hid hX; have HPR := Lib.hid hpR; have HLS := Lib.hid hls
  clear hA hB hX hpR hls h 
  go_enter Tryz.func41, Tryz.ntmps41
  go_wp2_with (go_at_call 77; refine (KL.out _ A0.out).mono ?_; rintro e w1 ⟨x1, v1, s1, rfl, hx1, hs1, ha1, hb1⟩; refine Hid.out ?_)
  obtain ⟨k1, a1, t1, n1, o1, l1, c1, q1, rfl, rfl, hk1⟩ := hx1.shape
  have HX1 := Lib.hid hx1; have HK1 := Lib.hid hk1; have HS1 := Lib.hid hs1
  have A1 := Lib.hid ha1; have B1 := Lib.hid (B0.out.trans hb1)
  have XR1 := Lib.hid (XR0.out.butt HPR.out hb1)
  clear ha1 hb1 hx1 hk1 hs1
  refine Lib.hid ?_
  have FT := Lib.hid (fin_tree HA0.out B1.out A1.out XR1.out HLS.out (.mk k1 a1 t1 n1 q1) (.int .i64 k1) (.int .i64 a1) (.string t1) (.int .i64 n1) (.slice o1 l1 c1) (HX1.out) _ rfl)
  have zXR := XR1.out
  have yXR0 := zXR.c0
  have yXR1 := zXR.c1
  have yXR2 := zXR.c2
  have yXR3 := zXR.c3
  have yXR4 := zXR.c4
  have fXR0 := zXR.free 0
  have fXR1 := zXR.free 1
  have fXR2 := zXR.free 2
  have fXR3 := zXR.free 3
  have fXR4 := zXR.free 4
  clear zXR
  obtain ⟨r0, r1, r2, r3, r4, rx, ra, rb⟩ := FT.out
  have GX := Lib.hid rx; have GA := Lib.hid ra; have GB := Lib.hid rb
  clear rx ra rb FT
  go_wp2
  refine bodyPost_ret (by simp [results, Tryz.results41, go_sem, r0, r1, r2, r3, r4]; rfl) rfl ?_
  exact ⟨_, _, _, rfl, GX.out, HS1.out, GA.out, GB.out⟩
set_option maxRecDepth 20000 in
theorem pexpression_any {R : Nat} {L : List Tk} {d : Nat} {st : RSt} {w : World} (h : At R L w d st) (K : GT 77 R L #[.pointer (some ⟨R, 0, none⟩), .int .i64 4] (.lvl 4) d st) :
    Calls Tryz.prog 46 #[.pointer (some ⟨R, 0, none⟩)] w (PT R L (.lvl 4) d st w) := by
  have KL := Lib.hid K
  clear K
  have HA0 := Lib.hid h
  have HLT := Lib.hid h.fix.lt
  have hA := h.alloc (Obj.cells #[.int .i64 0, .int .i64 0, .string ⟨#[]⟩, .int .i64 0, .slice none 0 0] 25)
  have hB := (Butt.refl R w).alloc h.fix.lt (Obj.cells #[.int .i64 0, .int .i64 0, .string ⟨#[]⟩, .int .i64 0, .slice none 0 0] 25)
  have hX := Bx5.new w (.int .i64 0) (.int .i64 0) (.string ⟨#[]⟩) (.int .i64 0) (.slice none 0 0)
  have hpR : w.heap.size ≠ R := fun e => absurd h.fix.lt (by rw [e]; exact Nat.lt_irrefl _)
  have hls : w.heap.size < (w.alloc (Obj.cells #[.int .i64 0, .int .i64 0, .string ⟨#[]⟩, .int .i64 0, .slice none 0 0] 25)).heap.size := by simp
  have A0 := Lib.hid hA; have B0 := Lib.hid hB; have XR0 := Lib.hid hX; have HPR := Lib.hid hpR; have HLS := Lib.hid hls
  clear hA hB hX hpR hls h 
  go_enter Tryz.func46, Tryz.ntmps46
  go_wp2_with (go_at_call 77; refine (KL.out _ A0.out).mono ?_; rintro e w1 ⟨x1, v1, s1, rfl, hx1, hs1, ha1, hb1⟩; refine Hid.out ?_)
  obtain ⟨k1, a1, t1, n1, o1, l1, c1, q1, rfl, rfl, hk1⟩ := hx1.shape
  have HX1 := Lib.hid hx1; have HK1 := Lib.hid hk1; have HS1 := Lib.hid hs1
  have A1 := Lib.hid ha1; have B1 := Lib.hid (B0.out.trans hb1)
  have XR1 := Lib.hid (XR0.out.butt HPR.out hb1)
  clear ha1 hb1 hx1 hk1 hs1
  refine Lib.hid ?_
  have FT := Lib.hid (fin_tree HA0.out B1.out A1.out XR1.out HLS.out (.mk k1 a1 t1 n1 q1) (.int .i64 k1) (.int .i64 a1) (.string t1) (.int .i64 n1) (.slice o1 l1 c1) (HX1.out) _ rfl)
  have zXR := XR1.out
  have yXR0 := zXR.c0
  have yXR1 := zXR.c1
  have yXR2 := zXR.c2
  have yXR3 := zXR.c3
  have yXR4 := zXR.c4
  have fXR0 := zXR.free 0
  have fXR1 := zXR.free 1
  have fXR2 := zXR.free 2
  have fXR3 := zXR.free 3
  have fXR4 := zXR.free 4
  clear zXR
  obtain ⟨r0, r1, r2, r3, r4, rx, ra, rb⟩ := FT.out
  have GX := Lib.hid rx; have GA := Lib.hid ra; have GB := Lib.hid rb
  clear rx ra rb FT
  go_wp2
  refine bodyPost_ret (by simp [results, Tryz.results46, go_sem, r0, r1, r2, r3, r4]; rfl) rfl ?_
  exact ⟨_, _, _, rfl, GX.out, HS1.out, GA.out, GB.out⟩
end Go.Proofs.YtdibcllakkjegaaGreatDoor
