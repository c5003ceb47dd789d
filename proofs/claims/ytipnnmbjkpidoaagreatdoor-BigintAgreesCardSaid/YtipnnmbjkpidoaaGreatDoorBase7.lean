import Derived.Test.YtipnnmbjkpidoaaGreatDoorBase4

set_option linter.unusedVariables false
/-
  A block of limbs that a function fills: what a walk needs to know of it.
-/
namespace Go.Proofs.YtipnnmbjkpidoaaGreatDoor
open Go Go.Proofs Go.RowKit

/-- Block b begins with the limbs l. -/
def Blk (w : World) (b : Nat) (l : List Nat) : Prop := ∃ R : List Value, w.heap[b]? = some (.cells (cellsOf l ++ R).toArray 123 (0, 0))

theorem Blk.lt {w : World} {b : Nat} {l : List Nat} (h : Blk w b l) : b < w.heap.size := by obtain ⟨R, h⟩ := h; exact lt_of_block h
theorem Blk.cell {w : World} {b : Nat} {l : List Nat} (h : Blk w b l) (k : Nat) (hk : k < l.length) : w.cell? ⟨b, k, none⟩ = some (.int .u32 (l.getD k 0 : Nat)) := by
  obtain ⟨R, h⟩ := h
  have e : w.cell? ⟨b, k, none⟩ = (cellsOf l ++ R).toArray[k]? := by simp [World.cell?, h]
  rw [e, ← cellsOf_get l k hk]
  simp only [List.getElem?_toArray]
  rw [List.getElem?_append_left (by rw [cellsOf_length]; exact hk)]
theorem Blk.frozen {w : World} {b : Nat} {l : List Nat} (h : Blk w b l) (k : Nat) : w.frozen? ⟨b, k, none⟩ = false := by
  obtain ⟨R, h⟩ := h; simp [World.frozen?, h]

theorem Blk.set {w : World} {b : Nat} {l : List Nat} (h : Blk w b l) (k n : Nat) : Blk (w.setCell ⟨b, k, none⟩ (.int .u32 (n : Int))) b (l.set k n) := by
  obtain ⟨R, h⟩ := h
  have hlt := lt_of_block h
  have h' : w.heap[b] = .cells (cellsOf l ++ R).toArray 123 (0, 0) := by simpa [Array.getElem?_eq_getElem hlt] using h
  have e : (w.setCell ⟨b, k, none⟩ (.int .u32 (n : Int))).heap[b]? = some (.cells ((cellsOf l ++ R).set k (.int .u32 (n : Int))).toArray 123 (0, 0)) := by
    show (w.heap.modify b _)[b]? = _
    rw [Array.getElem?_eq_getElem (by simpa using hlt), Array.getElem_modify_self, h']
    simp
  by_cases hk : k < l.length
  · refine ⟨R, ?_⟩
    rw [e, List.set_append_left _ _ (by rw [cellsOf_length]; exact hk)]
    simp [cellsOf, List.map_set]
  · refine ⟨R.set (k - (cellsOf l).length) (.int .u32 (n : Int)), ?_⟩
    rw [e, List.set_append_right _ _ (by rw [cellsOf_length]; omega), List.set_eq_of_length_le (l := l) (by omega)]

theorem Blk.keep {w w' : World} {b : Nat} {l : List Nat} {row : Option Nat} (h : Blk w b l) (hg : w.grownBy w' row) (hne : some b ≠ row) : Blk w' b l := by
  obtain ⟨R, h⟩ := h
  exact ⟨R, by rw [hg.block b (lt_of_block h) hne]; exact h⟩

theorem Blk.row {w : World} {b c : Nat} {l : List Nat} (h : Blk w b l) (hc : l.length ≤ c) (hm : c ≤ 9223372036854775807) : RowAt w (some ⟨b, 0, none⟩) c l :=
  ⟨hc, hm, .inr ⟨b, 0, rfl, h.lt, fun k hk => by rw [Nat.zero_add]; exact h.cell k hk⟩⟩

/-- What 'append' leaves. -/
theorem blk_of_owns {w : World} {base g n c : Nat} {l : List Nat} (h : w.ownsRow base 123 1 (.slice (some ⟨g, 0, none⟩) n c) n (cellsOf l)) : Blk w g l ∧ l.length = n ∧ n ≤ c ∧ c ≤ 9223372036854775807 ∧ base ≤ g := by
  obtain ⟨h1, h2⟩ := h
  rw [cellsOf_length] at h1
  rcases h2 with ⟨h2, -⟩ | ⟨g', cap, cur, he, hb, hg, hle, hm, hs, ht⟩
  · simp at h2
  · injection he with e1 e2 e3
    injection e1 with e1; injection e1 with e1 _ _
    subst e1; subst e3
    refine ⟨⟨cur.toList.drop (n * 1), ?_⟩, by omega, hle, by unfold maxLen at hm; omega, hb⟩
    rw [hg, ← ht, List.take_append_drop]

/-- What 'make' leaves. -/
theorem blk_of_made {w : World} {base g n : Nat} (h : w.ownsRow base 123 1 (.slice (some ⟨g, 0, none⟩) n n) n (madeCells #[Value.int .u32 0] n).toList) : Blk w g (List.replicate n 0) := by
  have e : (madeCells #[Value.int .u32 0] n).toList = cellsOf (List.replicate n 0) :=
    List.ext_getElem (by simp [cellsOf, madeCells]) fun i h3 h4 => by simp [cellsOf, madeCells, Nat.mod_one]
  rw [e] at h
  exact (blk_of_owns h).1

theorem grown_refl (w : World) (row : Option Nat) : w.grownBy w row := ⟨rfl, rfl, rfl, Nat.le_refl _, fun _ _ _ => rfl⟩
theorem grown_trans {a b c : World} {row : Option Nat} (h : a.grownBy b row) (k : b.grownBy c row) : a.grownBy c row :=
  ⟨k.os.trans h.os, k.tape.trans h.tape, k.output.trans h.output, Nat.le_trans h.size k.size, fun i hi hne => (k.block i (Nat.lt_of_lt_of_le hi h.size) hne).trans (h.block i hi hne)⟩
theorem grown_set {a w : World} {b : Nat} (h : a.grownBy w (some b)) (k : Nat) (v : Value) : a.grownBy (w.setCell ⟨b, k, none⟩ v) (some b) :=
  grown_trans h ⟨rfl, rfl, rfl, by simp [World.setCell], fun i _ hne => Below.heap_setCell _ _ _ _ (fun e => hne (by rw [e]))⟩
theorem grown_drew {a w : World} {row : Option Nat} (h : a.grownBy w row) (n : Nat) : a.grownBy (w.drewN n) row :=
  grown_trans h ⟨rfl, rfl, rfl, Nat.le_refl _, fun _ _ _ => rfl⟩
theorem grown_below {a w w' : World} {row : Option Nat} (h : a.grownBy w row) (k : Below w.heap.size w w') : a.grownBy w' row :=
  grown_trans h ⟨k.os, k.tape, k.output, k.size, fun i hi _ => k.block i hi⟩
theorem grown_none {a w : World} {row : Option Nat} (h : a.grownBy w none) : a.grownBy w row :=
  ⟨h.os, h.tape, h.output, h.size, fun i hi _ => h.block i hi (by simp)⟩
theorem below_of_grown {a w : World} (h : a.grownBy w none) : Below a.heap.size a w :=
  ⟨h.os, h.tape, h.output, h.size, fun i hi => h.block i hi (by simp)⟩
theorem grown_of_below {a w : World} (h : Below a.heap.size a w) : a.grownBy w none :=
  ⟨h.os, h.tape, h.output, h.size, fun i hi _ => h.block i hi⟩
/-- A function that writes a block that is newer than its call has turned nothing that lay before. -/
theorem below_grown {a w w' : World} {b : Nat} (h : Below a.heap.size a w) (k : w.grownBy w' (some b)) (hb : a.heap.size ≤ b) : Below a.heap.size a w' :=
  h.trans ⟨k.os, k.tape, k.output, k.size, fun i hi => k.block i (Nat.lt_of_lt_of_le hi h.size) (fun e => by injection e with e; omega)⟩

theorem gcell {a w : World} {row : Option Nat} (h : a.grownBy w row) {p : Addr} {v : Value} (hc : a.cell? p = some v) (hne : some p.block ≠ row) : w.cell? p = some v := h.cell hc hne
theorem gfree {a w : World} {row : Option Nat} (h : a.grownBy w row) {p : Addr} (hlt : p.block < a.heap.size) (hf : a.frozen? p = false) (hne : some p.block ≠ row) : w.frozen? p = false := by
  rw [World.frozen?_of_block (w := a) (h.block p.block hlt hne)]; exact hf

theorem RowAt.get {w : World} {b off c : Nat} {l : List Nat} (h : RowAt w (some ⟨b, off, none⟩) c l) (k : Nat) (hk : k < l.length) : w.cell? ⟨b, off + k, none⟩ = some (.int .u32 (l.getD k 0 : Nat)) := by
  rcases h.2.2 with ⟨h0, -⟩ | ⟨b', off', he, _, hc⟩
  · rw [h0] at hk; simp at hk
  · injection he with he; injection he with e1 e2 _
    subst e1; subst e2
    exact hc k hk
theorem RowAt.block {w : World} {b off c : Nat} {l : List Nat} (h : RowAt w (some ⟨b, off, none⟩) c l) (hne : l ≠ []) : b < w.heap.size := by
  rcases h.2.2 with ⟨h0, -⟩ | ⟨b', off', he, hlt, hc⟩
  · exact absurd h0 hne
  · injection he with he; injection he with e1 e2 _
    subst e1; exact hlt
theorem RowAt.addr {w : World} {ao : Option Addr} {c : Nat} {l : List Nat} (h : RowAt w ao c l) (hne : l ≠ []) : ∃ b off, ao = some ⟨b, off, none⟩ := by
  rcases h.2.2 with ⟨h0, -⟩ | ⟨b, off, he, _, _⟩
  · exact absurd h0 hne
  · exact ⟨b, off, he⟩

/-- Three boxes: two parameters and a result. -/
structure Three (w W : World) (v1 v2 v3 : Value) : Prop where
  size : W.heap.size = w.heap.size + 3
  c1 : W.cell? ⟨w.heap.size, 0, none⟩ = some v1
  c2 : W.cell? ⟨w.heap.size + 1, 0, none⟩ = some v2
  c3 : W.cell? ⟨w.heap.size + 1 + 1, 0, none⟩ = some v3
  f1 : W.frozen? ⟨w.heap.size, 0, none⟩ = false
  f2 : W.frozen? ⟨w.heap.size + 1, 0, none⟩ = false
  f3 : W.frozen? ⟨w.heap.size + 1 + 1, 0, none⟩ = false
  below : Below w.heap.size w W
theorem three_new (w : World) (v1 v2 v3 : Value) (t1 t2 t3 : TypeId) : Three w (((w.alloc (Obj.cells #[v1] t1)).alloc (Obj.cells #[v2] t2)).alloc (Obj.cells #[v3] t3)) v1 v2 v3 :=
  ⟨by simp, by go_cell, by go_cell, by go_cell, by go_cell, by go_cell, by go_cell, by go_grown⟩

/-- A box of another kind may be written. -/
theorem RowAt.box {w : World} {ao : Option Addr} {c : Nat} {l : List Nat} (h : RowAt w ao c l) {p : Addr} {so : Option Addr} {n m : Nat} (hp : w.cell? p = some (.slice so n m)) (u : Value) : RowAt (w.setCell p u) ao c l := by
  obtain ⟨h1, h2, h3⟩ := h
  refine ⟨h1, h2, ?_⟩
  rcases h3 with h3 | ⟨b, off, he, hlt, hc⟩
  · exact .inl h3
  · refine .inr ⟨b, off, he, by simpa [World.setCell] using hlt, fun k hk => ?_⟩
    have h4 := hc k hk
    rw [World.cell?_setCell_other (h := fun e => by rw [e, h4] at hp; simp at hp)]
    exact h4

theorem trimmed_at (l : List Nat) (n : Nat) (ao : Option Addr) (c : Nat) (w : World) (hn : l.length = n) (hr : RowAt w ao c l) (hs : Small l) :
    Calls Tryz.prog 167 #[.slice ao n c] w (RetN (val l) w) := by
  subst hn; exact trimmed_any l ao c w hr hs

/-- Three boxes in a later world. -/
structure Boxes (w W : World) (v1 v2 v3 : Value) : Prop where
  lt : w.heap.size + 1 + 1 < W.heap.size
  c1 : W.cell? ⟨w.heap.size, 0, none⟩ = some v1
  c2 : W.cell? ⟨w.heap.size + 1, 0, none⟩ = some v2
  c3 : W.cell? ⟨w.heap.size + 1 + 1, 0, none⟩ = some v3
  f1 : W.frozen? ⟨w.heap.size, 0, none⟩ = false
  f2 : W.frozen? ⟨w.heap.size + 1, 0, none⟩ = false
  f3 : W.frozen? ⟨w.heap.size + 1 + 1, 0, none⟩ = false
  below : Below w.heap.size w W
theorem Three.boxes {w W : World} {v1 v2 v3 : Value} (h : Three w W v1 v2 v3) : Boxes w W v1 v2 v3 :=
  ⟨by rw [h.size]; omega, h.c1, h.c2, h.c3, h.f1, h.f2, h.f3, h.below⟩
theorem Boxes.mono {w W W' : World} {v1 v2 v3 : Value} (h : Boxes w W v1 v2 v3) (k : Below W.heap.size W W') : Boxes w W' v1 v2 v3 := by
  have hl := h.lt
  exact ⟨Nat.lt_of_lt_of_le h.lt k.size, (k.cell (p := ⟨w.heap.size, 0, none⟩) (by simp; omega)).trans h.c1, (k.cell (p := ⟨w.heap.size + 1, 0, none⟩) (by simp; omega)).trans h.c2, (k.cell (p := ⟨w.heap.size + 1 + 1, 0, none⟩) (by simp; omega)).trans h.c3,
    (k.frozen (p := ⟨w.heap.size, 0, none⟩) (by simp; omega)).trans h.f1, (k.frozen (p := ⟨w.heap.size + 1, 0, none⟩) (by simp; omega)).trans h.f2, (k.frozen (p := ⟨w.heap.size + 1 + 1, 0, none⟩) (by simp; omega)).trans h.f3, Below.chain h.below k⟩
theorem Boxes.grown {w W W' : World} {v1 v2 v3 : Value} {b : Nat} (h : Boxes w W v1 v2 v3) (k : W.grownBy W' (some b)) (hb : w.heap.size + 1 + 1 < b) : Boxes w W' v1 v2 v3 := by
  have hl := h.lt
  exact ⟨Nat.lt_of_lt_of_le h.lt k.size, gcell k h.c1 (by simp; omega), gcell k h.c2 (by simp; omega), gcell k h.c3 (by simp; omega),
    gfree k (by simp; omega) h.f1 (by simp; omega), gfree k (by simp; omega) h.f2 (by simp; omega), gfree k (by simp; omega) h.f3 (by simp; omega), below_grown h.below k (by omega)⟩
theorem Boxes.swap {w W : World} {v1 v2 v3 : Value} (h : Boxes w W v1 v2 v3) (u1 u2 : Value) : Boxes w ((W.setCell ⟨w.heap.size, 0, none⟩ u1).setCell ⟨w.heap.size + 1, 0, none⟩ u2) u1 u2 v3 := by
  have hl := h.lt
  refine ⟨by simpa [World.setCell] using hl, ?_, ?_, ?_, ?_, ?_, ?_, ?_⟩
  · rw [World.cell?_setCell_other (h := by simp)]; exact cellSet h.c1 _
  · exact cellSet (u := v2) (by rw [World.cell?_setCell_other (h := by simp)]; exact h.c2) _
  · rw [World.cell?_setCell_other (h := by simp), World.cell?_setCell_other (h := by simp)]; exact h.c3
  · rw [World.frozen?_setCell, World.frozen?_setCell]; exact h.f1
  · rw [World.frozen?_setCell, World.frozen?_setCell]; exact h.f2
  · rw [World.frozen?_setCell, World.frozen?_setCell]; exact h.f3
  · exact (h.below.setCell (p := ⟨w.heap.size, 0, none⟩) (Nat.le_refl _) _).setCell (p := ⟨w.heap.size + 1, 0, none⟩) (by simp) _

end Go.Proofs.YtipnnmbjkpidoaaGreatDoor
