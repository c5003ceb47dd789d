import Derived.Test.YtipnnmbjkpidoaaGreatDoorBase2
import Derived.RangeFuncNested
import Derived.Test.YtipnnmbjkpidoaaGreatDoorOwnIter
import Derived.Test.YtipnnmbjkpidoaaGreatDoorBase1
import Derived.Lib.AppendIntMem
import Derived.Test.YtipnnmbjkpidoaaGreatDoorShelfP

set_option linter.unusedVariables false
/-
  A block of limbs that a function fills: what a walk needs to know of it.
-/
namespace Go.Proofs.YtipnnmbjkpidoaaGreatDoor
open Go Go.Proofs Go.RowKit

/-- Block b begins with the limbs l. -/
def Blk (w : World) (b : Nat) (l : List Nat) : Prop := ∃ R : List Value, w.heap[b]? = some (.cells (cellsOf l ++ R).toArray 123 (0, 0))

theorem Blk.lt {w : World} {b : Nat} {l : List Nat} (h : Blk w b l) : b < w.heap.size := by obtain ⟨R, h⟩ := h; exact lt_of_block h
theorem Blk.cell {w : World} {b : Nat} {l : List Nat} (h : Blk w b l) (k : Nat) (hk : k < l.length) : w.cell? ⟨b, k, none⟩ = some (.int .u32 (l.getD k 0 : Nat)) := by
  obtain ⟨R, h⟩ := h
  have e : w.cell? ⟨b, k, none⟩ = (cellsOf l ++ R).toArray[k]? := by simp [World.cell?, h]
  rw [e, ← cellsOf_get l k hk]
  simp only [List.getElem?_toArray]
  rw [List.getElem?_append_left (by rw [cellsOf_length]; exact hk)]
theorem Blk.frozen {w : World} {b : Nat} {l : List Nat} (h : Blk w b l) (k : Nat) : w.frozen? ⟨b, k, none⟩ = false := by
  obtain ⟨R, h⟩ := h; simp [World.frozen?, h]

theorem Blk.set {w : World} {b : Nat} {l : List Nat} (h : Blk w b l) (k n : Nat) : Blk (w.setCell ⟨b, k, none⟩ (.int .u32 (n : Int))) b (l.set k n) := by
  obtain ⟨R, h⟩ := h
  have hlt := lt_of_block h
  have h' : w.heap[b] = .cells (cellsOf l ++ R).toArray 123 (0, 0) := by simpa [Array.getElem?_eq_getElem hlt] using h
  have e : (w.setCell ⟨b, k, none⟩ (.int .u32 (n : Int))).heap[b]? = some (.cells ((cellsOf l ++ R).set k (.int .u32 (n : Int))).toArray 123 (0, 0)) := by
    show (w.heap.modify b _)[b]? = _
    rw [Array.getElem?_eq_getElem (by simpa using hlt), Array.getElem_modify_self, h']
    simp
  by_cases hk : k < l.length
  · refine ⟨R, ?_⟩
    rw [e, List.set_append_left _ _ (by rw [cellsOf_length]; exact hk)]
    simp [cellsOf, List.map_set]
  · refine ⟨R.set (k - (cellsOf l).length) (.int .u32 (n : Int)), ?_⟩
    rw [e, List.set_append_right _ _ (by rw [cellsOf_length]; omega), List.set_eq_of_length_le (l := l) (by omega)]

theorem Blk.keep {w w' : World} {b : Nat} {l : List Nat} {row : Option Nat} (h : Blk w b l) (hg : w.grownBy w' row) (hne : some b ≠ row) : Blk w' b l := by
  obtain ⟨R, h⟩ := h
  exact ⟨R, by rw [hg.block b (lt_of_block h) hne]; exact h⟩

theorem Blk.row {w : World} {b c : Nat} {l : List Nat} (h : Blk w b l) (hc : l.length ≤ c) (hm : c ≤ 9223372036854775807) : RowAt w (some ⟨b, 0, none⟩) c l :=
  ⟨hc, hm, .inr ⟨b, 0, rfl, h.lt, fun k hk => by rw [Nat.zero_add]; exact h.cell k hk⟩⟩

/-- What 'append' leaves. -/
theorem blk_of_owns {w : World} {base g n c : Nat} {l : List Nat} (h : w.ownsRow base 123 1 (.slice (some ⟨g, 0, none⟩) n c) n (cellsOf l)) : Blk w g l ∧ l.length = n ∧ n ≤ c ∧ c ≤ 9223372036854775807 ∧ base ≤ g := by
  obtain ⟨h1, h2⟩ := h
  rw [cellsOf_length] at h1
  rcases h2 with ⟨h2, -⟩ | ⟨g', cap, cur, he, hb, hg, hle, hm, hs, ht⟩
  · simp at h2
  · injection he with e1 e2 e3
    injection e1 with e1; injection e1 with e1 _ _
    subst e1; subst e3
    refine ⟨⟨cur.toList.drop (n * 1), ?_⟩, by omega, hle, by unfold maxLen at hm; omega, hb⟩
    rw [hg, ← ht, List.take_append_drop]

/-- What 'make' leaves. -/
theorem blk_of_made {w : World} {base g n : Nat} (h : w.ownsRow base 123 1 (.slice (some ⟨g, 0, none⟩) n n) n (madeCells #[Value.int .u32 0] n).toList) : Blk w g (List.replicate n 0) := by
  have e : (madeCells #[Value.int .u32 0] n).toList = cellsOf (List.replicate n 0) :=
    List.ext_getElem (by simp [cellsOf, madeCells]) fun i h3 h4 => by simp [cellsOf, madeCells, Nat.mod_one]
  rw [e] at h
  exact (blk_of_owns h).1

theorem grown_refl (w : World) (row : Option Nat) : w.grownBy w row := ⟨rfl, rfl, rfl, Nat.le_refl _, fun _ _ _ => rfl⟩
theorem grown_trans {a b c : World} {row : Option Nat} (h : a.grownBy b row) (k : b.grownBy c row) : a.grownBy c row :=
  ⟨k.os.trans h.os, k.tape.trans h.tape, k.output.trans h.output, Nat.le_trans h.size k.size, fun i hi hne => (k.block i (Nat.lt_of_lt_of_le hi h.size) hne).trans (h.block i hi hne)⟩
theorem grown_set {a w : World} {b : Nat} (h : a.grownBy w (some b)) (k : Nat) (v : Value) : a.grownBy (w.setCell ⟨b, k, none⟩ v) (some b) :=
  grown_trans h ⟨rfl, rfl, rfl, by simp [World.setCell], fun i _ hne => Below.heap_setCell _ _ _ _ (fun e => hne (by rw [e]))⟩
theorem grown_drew {a w : World} {row : Option Nat} (h : a.grownBy w row) (n : Nat) : a.grownBy (w.drewN n) row :=
  grown_trans h ⟨rfl, rfl, rfl, Nat.le_refl _, fun _ _ _ => rfl⟩
theorem grown_below {a w w' : World} {row : Option Nat} (h : a.grownBy w row) (k : Below w.heap.size w w') : a.grownBy w' row :=
  grown_trans h ⟨k.os, k.tape, k.output, k.size, fun i hi _ => k.block i hi⟩
theorem grown_none {a w : World} {row : Option Nat} (h : a.grownBy w none) : a.grownBy w row :=
  ⟨h.os, h.tape, h.output, h.size, fun i hi _ => h.block i hi (by simp)⟩
theorem below_of_grown {a w : World} (h : a.grownBy w none) : Below a.heap.size a w :=
  ⟨h.os, h.tape, h.output, h.size, fun i hi => h.block i hi (by simp)⟩
theorem grown_of_below {a w : World} (h : Below a.heap.size a w) : a.grownBy w none :=
  ⟨h.os, h.tape, h.output, h.size, fun i hi _ => h.block i hi⟩
/-- A function that writes a block that is newer than its call has turned nothing that lay before. -/
theorem below_grown {a w w' : World} {b : Nat} (h : Below a.heap.size a w) (k : w.grownBy w' (some b)) (hb : a.heap.size ≤ b) : Below a.heap.size a w' :=
  h.trans ⟨k.os, k.tape, k.output, k.size, fun i hi => k.block i (Nat.lt_of_lt_of_le hi h.size) (fun e => by injection e with e; omega)⟩

theorem gcell {a w : World} {row : Option Nat} (h : a.grownBy w row) {p : Addr} {v : Value} (hc : a.cell? p = some v) (hne : some p.block ≠ row) : w.cell? p = some v := h.cell hc hne
theorem gfree {a w : World} {row : Option Nat} (h : a.grownBy w row) {p : Addr} (hlt : p.block < a.heap.size) (hf : a.frozen? p = false) (hne : some p.block ≠ row) : w.frozen? p = false := by
  rw [World.frozen?_of_block (w := a) (h.block p.block hlt hne)]; exact hf

theorem RowAt.get {w : World} {b off c : Nat} {l : List Nat} (h : RowAt w (some ⟨b, off, none⟩) c l) (k : Nat) (hk : k < l.length) : w.cell? ⟨b, off + k, none⟩ = some (.int .u32 (l.getD k 0 : Nat)) := by
  rcases h.2.2 with ⟨h0, -⟩ | ⟨b', off', he, _, hc⟩
  · rw [h0] at hk; simp at hk
  · injection he with he; injection he with e1 e2 _
    subst e1; subst e2
    exact hc k hk
theorem RowAt.block {w : World} {b off c : Nat} {l : List Nat} (h : RowAt w (some ⟨b, off, none⟩) c l) (hne : l ≠ []) : b < w.heap.size := by
  rcases h.2.2 with ⟨h0, -⟩ | ⟨b', off', he, hlt, hc⟩
  · exact absurd h0 hne
  · injection he with he; injection he with e1 e2 _
    subst e1; exact hlt
theorem RowAt.addr {w : World} {ao : Option Addr} {c : Nat} {l : List Nat} (h : RowAt w ao c l) (hne : l ≠ []) : ∃ b off, ao = some ⟨b, off, none⟩ := by
  rcases h.2.2 with ⟨h0, -⟩ | ⟨b, off, he, _, _⟩
  · exact absurd h0 hne
  · exact ⟨b, off, he⟩

/-- Three boxes: two parameters and a result. -/
structure Three (w W : World) (v1 v2 v3 : Value) : Prop where
  size : W.heap.size = w.heap.size + 3
  c1 : W.cell? ⟨w.heap.size, 0, none⟩ = some v1
  c2 : W.cell? ⟨w.heap.size + 1, 0, none⟩ = some v2
  c3 : W.cell? ⟨w.heap.size + 1 + 1, 0, none⟩ = some v3
  f1 : W.frozen? ⟨w.heap.size, 0, none⟩ = false
  f2 : W.frozen? ⟨w.heap.size + 1, 0, none⟩ = false
  f3 : W.frozen? ⟨w.heap.size + 1 + 1, 0, none⟩ = false
  below : Below w.heap.size w W
theorem three_new (w : World) (v1 v2 v3 : Value) (t1 t2 t3 : TypeId) : Three w (((w.alloc (Obj.cells #[v1] t1)).alloc (Obj.cells #[v2] t2)).alloc (Obj.cells #[v3] t3)) v1 v2 v3 :=
  ⟨by simp, by go_cell, by go_cell, by go_cell, by go_cell, by go_cell, by go_cell, by go_grown⟩

/-- A box of another kind may be written. -/
theorem RowAt.box {w : World} {ao : Option Addr} {c : Nat} {l : List Nat} (h : RowAt w ao c l) {p : Addr} {so : Option Addr} {n m : Nat} (hp : w.cell? p = some (.slice so n m)) (u : Value) : RowAt (w.setCell p u) ao c l := by
  obtain ⟨h1, h2, h3⟩ := h
  refine ⟨h1, h2, ?_⟩
  rcases h3 with h3 | ⟨b, off, he, hlt, hc⟩
  · exact .inl h3
  · refine .inr ⟨b, off, he, by simpa [World.setCell] using hlt, fun k hk => ?_⟩
    have h4 := hc k hk
    rw [World.cell?_setCell_other (h := fun e => by rw [e, h4] at hp; simp at hp)]
    exact h4

theorem trimmed_at (l : List Nat) (n : Nat) (ao : Option Addr) (c : Nat) (w : World) (hn : l.length = n) (hr : RowAt w ao c l) (hs : Small l) :
    Calls Tryz.prog 167 #[.slice ao n c] w (RetN (val l) w) := by
  subst hn; exact trimmed_any l ao c w hr hs

/-- Three boxes in a later world. -/
structure Boxes (w W : World) (v1 v2 v3 : Value) : Prop where
  lt : w.heap.size + 1 + 1 < W.heap.size
  c1 : W.cell? ⟨w.heap.size, 0, none⟩ = some v1
  c2 : W.cell? ⟨w.heap.size + 1, 0, none⟩ = some v2
  c3 : W.cell? ⟨w.heap.size + 1 + 1, 0, none⟩ = some v3
  f1 : W.frozen? ⟨w.heap.size, 0, none⟩ = false
  f2 : W.frozen? ⟨w.heap.size + 1, 0, none⟩ = false
  f3 : W.frozen? ⟨w.heap.size + 1 + 1, 0, none⟩ = false
  below : Below w.heap.size w W
theorem Three.boxes {w W : World} {v1 v2 v3 : Value} (h : Three w W v1 v2 v3) : Boxes w W v1 v2 v3 :=
  ⟨by rw [h.size]; omega, h.c1, h.c2, h.c3, h.f1, h.f2, h.f3, h.below⟩
theorem Boxes.mono {w W W' : World} {v1 v2 v3 : Value} (h : Boxes w W v1 v2 v3) (k : Below W.heap.size W W') : Boxes w W' v1 v2 v3 := by
  have hl := h.lt
  exact ⟨Nat.lt_of_lt_of_le h.lt k.size, (k.cell (p := ⟨w.heap.size, 0, none⟩) (by simp; omega)).trans h.c1, (k.cell (p := ⟨w.heap.size + 1, 0, none⟩) (by simp; omega)).trans h.c2, (k.cell (p := ⟨w.heap.size + 1 + 1, 0, none⟩) (by simp; omega)).trans h.c3,
    (k.frozen (p := ⟨w.heap.size, 0, none⟩) (by simp; omega)).trans h.f1, (k.frozen (p := ⟨w.heap.size + 1, 0, none⟩) (by simp; omega)).trans h.f2, (k.frozen (p := ⟨w.heap.size + 1 + 1, 0, none⟩) (by simp; omega)).trans h.f3, Below.chain h.below k⟩
theorem Boxes.grown {w W W' : World} {v1 v2 v3 : Value} {b : Nat} (h : Boxes w W v1 v2 v3) (k : W.grownBy W' (some b)) (hb : w.heap.size + 1 + 1 < b) : Boxes w W' v1 v2 v3 := by
  have hl := h.lt
  exact ⟨Nat.lt_of_lt_of_le h.lt k.size, gcell k h.c1 (by simp; omega), gcell k h.c2 (by simp; omega), gcell k h.c3 (by simp; omega),
    gfree k (by simp; omega) h.f1 (by simp; omega), gfree k (by simp; omega) h.f2 (by simp; omega), gfree k (by simp; omega) h.f3 (by simp; omega), below_grown h.below k (by omega)⟩
theorem Boxes.swap {w W : World} {v1 v2 v3 : Value} (h : Boxes w W v1 v2 v3) (u1 u2 : Value) : Boxes w ((W.setCell ⟨w.heap.size, 0, none⟩ u1).setCell ⟨w.heap.size + 1, 0, none⟩ u2) u1 u2 v3 := by
  have hl := h.lt
  refine ⟨by simpa [World.setCell] using hl, ?_, ?_, ?_, ?_, ?_, ?_, ?_⟩
  · rw [World.cell?_setCell_other (h := by simp)]; exact cellSet h.c1 _
  · exact cellSet (u := v2) (by rw [World.cell?_setCell_other (h := by simp)]; exact h.c2) _
  · rw [World.cell?_setCell_other (h := by simp), World.cell?_setCell_other (h := by simp)]; exact h.c3
  · rw [World.frozen?_setCell, World.frozen?_setCell]; exact h.f1
  · rw [World.frozen?_setCell, World.frozen?_setCell]; exact h.f2
  · rw [World.frozen?_setCell, World.frozen?_setCell]; exact h.f3
  · exact (h.below.setCell (p := ⟨w.heap.size, 0, none⟩) (Nat.le_refl _) _).setCell (p := ⟨w.heap.size + 1, 0, none⟩) (by simp) _

end Go.Proofs.YtipnnmbjkpidoaaGreatDoor

namespace Go.Proofs.YtipnnmbjkpidoaaGreatDoor
open Go Go.Proofs Go.RowKit Go.Shelf

attribute [local go_sem] Oper.semAt_some

set_option maxHeartbeats 1000000 in
theorem limbsOf_any (s : ByteArray) (w : World) :
    Calls Tryz.prog 177 #[.string s] w fun e w' => e = .returned (.func (.func 197) #[] #[.pointer (some ⟨w.heap.size, 0, none⟩)]) ∧ w' = w.alloc (.cells #[.string s] 9) := by
  go_enter Tryz.func177, Tryz.ntmps177
  go_wp2
  go_ret
  exact ⟨rfl, rfl⟩

theorem iter_stops (n : Nat) (hn : 1 ≤ n) (Bn : Nat) (s : ByteArray) (hs : s.size ≤ 9223372036854775807) (hd : AllDig (bytes s)) (w : World) (hBn : Bn < w.heap.size) (hc : w.cell? ⟨Bn, 0, none⟩ = some (.string s)) :
    SeqStopsK Fence.wide n Tryz.prog 197 #[.pointer (some ⟨Bn, 0, none⟩)] (fun x : Nat => #[Value.int .u32 ((x : Nat) : Int)]) (KBlk Bn) (fun ys => ys = chunks (bytes s)) (fun pre => pre <+: chunks (bytes s)) (chunks (bytes s)).length w := fun l J Jx W hW _ _ hY h0 =>
  iter_in n hn l Bn s hs hd J Jx hY W ((hW.cell (p := ⟨Bn, 0, none⟩) hBn).trans hc) h0

theorem RowAt.put {W : World} {D : Nat} {x : Option (List Deferred)} (hK : W.heap[D]? = some (.deferred x)) (o : Obj) {ao : Option Addr} {c : Nat} {l : List Nat} (h : RowAt W ao c l) : RowAt (W.putObj D o) ao c l := by
  obtain ⟨h1, h2, h3⟩ := h
  refine ⟨h1, h2, ?_⟩
  rcases h3 with h3 | ⟨b, off, he, hlt, hc⟩
  · exact .inl h3
  · refine .inr ⟨b, off, he, by simpa using hlt, fun k hk => ?_⟩
    have h4 := hc k hk
    have hne : b ≠ D := fun e => by subst e; simp [World.cell?, hK] at h4
    rw [World.cell?_of_block (w := W) (a := ⟨b, off + k, none⟩) (World.putObj_heap_other hne)]
    exact h4

set_option maxRecDepth 100000 in
set_option maxHeartbeats 2000000 in
theorem parse_good (s : ByteArray) (w : World) (hs : s.size ≤ 1000000000000) (hd : digB (bytes s) = true) :
    Calls Tryz.prog 152 #[.string s] w fun e w' => ∃ v, e = .returned (.tuple #[v, .bool true]) ∧ NumAt w' v (dec (bytes s)) ∧ Below w.heap.size w w' := by
  obtain ⟨i0, hi, hz0, hz1, hz2⟩ := info_parts infoU32
  have hall := allDigits_any s
  rw [hd] at hall
  have HALL := Lib.hid hall
  have hdg : AllDig (bytes s) := fun c hc => by
    unfold digB at hd
    rw [Bool.and_eq_true] at hd
    exact List.all_eq_true.1 hd.2 c hc
  have HD := Lib.hid hdg
  clear hall hd hdg
  refine (callsIn_wide (n := 3)).1 ?_
  refine callsIn_of_wp_marks Tryz.func152 rfl trivial ?_ rfl
  simp only [Tryz.ntmps152, List.size_toArray, List.length_cons, List.length_nil, Nat.reduceAdd, Nat.reduceSub, Array.replicate_succ, Array.replicate_zero, List.push_toArray, List.append_toArray, List.nil_append, List.cons_append]
  gi_wp2_with fail
  refine ⟨trivial, (callsIn_wide.2 (HALL.out _ (by omega))).mono ?_⟩
  rintro e w' ⟨rfl, rfl⟩
  gi_wp2_with (gi_at_make; refine wpListIn_make_own _ rfl _ _ 77 rfl (w.heap.size + 1) 123 i0 (.int .u32 0) 1 Tryz.underlying77 hi hz0 hz1 .i64 .i64 _ (s.size / 9 + 1) rfl rfl ?a1 ?a2 ?a3 ?a4 ?_)
  case a1 => omega
  case a2 => rw [hz2]; omega
  case a3 => unfold maxLen; omega
  case a4 => simp
  intro W1 hown hg
  have hbx0 : Boxed W1 w.heap.size 79 (.slice none 0 0) := (Boxed.new w 79 (.slice none 0 0)).kept hg (by simp)
  have hB1 : Below w.heap.size w W1 := Below.chain ((Below.refl w.heap.size w).alloc (Nat.le_refl _) _) (below_of_grown hg)
  have hsz1 : w.heap.size + 1 < W1.heap.size := by
    rcases hown.2 with ⟨h, _⟩ | ⟨g', cap, cur, he, hb, hgb, _⟩
    · simp at h
    · injection he with he _ _; injection he with he; injection he with he _ _
      have := (Array.getElem?_eq_some_iff.1 hgb).1
      omega
  have HOWN := Lib.hid hown; have HBX0 := Lib.hid hbx0; have HB1 := Lib.hid hB1
  clear hown hg hbx0 hB1
  gi_wp2_with fail
  refine ⟨trivial, (callsIn_wide.2 (limbsOf_any s _)).mono ?_⟩
  rintro e w' ⟨rfl, rfl⟩
  gi_wp2_with fail
  have bO := Boxed.new W1 77 (.slice (some ⟨w.heap.size + 1, 0, none⟩) 0 (s.size / 9 + 1))
  have bN := Boxed.new (W1.alloc (.cells #[.slice (some ⟨w.heap.size + 1, 0, none⟩) 0 (s.size / 9 + 1)] 77)) 9 (.string s)
  rw [World.size_alloc] at bN
  have hch := chunks_facts _ (bytes s) rfl HD.out
  rw [bytes_length] at hch
  obtain ⟨hch1, hch2, hch3⟩ := hch
  have HCH1 := Lib.hid hch1; have HCH2 := Lib.hid hch2
  clear hch1 hch2
  have hB2 : Below w.heap.size w ((W1.alloc (.cells #[.slice (some ⟨w.heap.size + 1, 0, none⟩) 0 (s.size / 9 + 1)] 77)).alloc (.cells #[.string s] 9)) :=
    (HB1.out.alloc HB1.out.size _).alloc (by simp; have := HB1.out.size; omega) _
  refine wpIn_rangeFunc_ownG rfl (by omega) (gf := 197) (lb := #[.pointer (some ⟨W1.heap.size + 1, 0, none⟩)]) rfl trivial (enters_of Tryz.func197 (by kernel_rfl) rfl)
    (iter_stops 2 (by omega) (W1.heap.size + 1) s (by omega) HD.out _ (by simp) bN.cell) (fun {A B C} h k => k.trans h) ?hKb (Below.refl _ _) (fun _ => rfl)
    (fun pre W => (∃ v, Boxed W W1.heap.size 77 v ∧ W.ownsRow (w.heap.size + 1) 123 1 v pre.length (cellsOf pre) ∧ True) ∧ Boxed W w.heap.size 79 (.slice none 0 0) ∧ Boxed W (W1.heap.size + 1) 9 (.string s) ∧ Below w.heap.size w W)
    (fun _ _ _ => False)
    (OwnFrom.and (Own.from (holdsRow_own (w.heap.size + 1) W1.heap.size 77 123 1 (fun pre : List Nat => pre.length) (fun pre => cellsOf pre) (fun _ _ => True)) _) (OwnFrom.and (Own.from (boxed_own w.heap.size 79 (fun _ => .slice none 0 0)) _) (OwnFrom.and (Own.from (boxed_own (W1.heap.size + 1) 9 (fun _ => .string s)) _) (ownFrom_below (Nat.le_refl _) (by simp; have := HB1.out.size; omega)))))
    (fun _ _ _ _ _ hs _ _ => hs)
    ⟨⟨_, bO.alloc _, (HOWN.out.alloc _).alloc _, trivial⟩, (HBX0.out.alloc _).alloc _, bN, hB2⟩
    (fun x => { tmps := #[.string s, undef, .pointer (some ⟨w.heap.size, 0, none⟩), .bool false, .pointer (some ⟨W1.heap.size, 0, none⟩), .int .u32 ((x : Nat) : Int), .string s, .bool true, .bool false, undef, .string s, .int .i64 (s.size : Int), .int .i64 ((s.size : Int) / 9), .int .i64 ((s.size : Int) / 9 + 1),
      .slice (some ⟨w.heap.size + 1, 0, none⟩) 0 (s.size / 9 + 1), .string s, .func (.func 197) #[] #[.pointer (some ⟨W1.heap.size + 1, 0, none⟩)], .int .u32 ((x : Nat) : Int), undef, undef, undef, undef, undef, undef], defers := [] }) ?assign ?body ?done ?stop
  case hKb =>
    intro W l o o' hl _ _ _
    exact World.putObj_heap_other (by simp at hl; omega)
  case assign =>
    intro l x W K hK
    gi_wp2
    exact hK
  case body =>
    rintro l pre x W ⟨⟨v, hv, hrow, -⟩, hbx, hst, hB⟩ hlt
    have hc := hv.cell
    have hf := hv.frozen
    have hWs := hv.lt
    have h1s := HB1.out.size
    gi_wp2_with (gi_at_builtin; refine wpListIn_append_own _ rfl _ _ 77 rfl (w.heap.size + 1) 123 i0 (.int .u32 0) 1 4 Tryz.underlying77 hi hz0 hz1 hz2 rfl (by decide) _ _ _ rfl (hrow.alloc _) ⟨W.heap.size, 0, none⟩ 1 1 [.int .u32 (x : Int)] rfl rfl (cell_one_new _ _ _) (by simp [Value.oneCell']) (by unfold maxLen; omega) (by omega) (by simp; omega) ?_; intro v' w1 hown' hgrow _; obtain ⟨g', cap', rfl⟩ := ownsRow_succ hown'; obtain ⟨hv1, hv2, hr2, hk2, hb2⟩ := hv.appended (by decide) hrow (by omega) (by omega) hown' hgrow; have hc1 := hv1.cell; have hf1 := hv1.frozen)
    have hbx1 := ((hbx.alloc _).kept hgrow (hbx.not_row (by decide) hrow)).other (B' := W1.heap.size) (by omega) (Value.slice (some { block := g', off := 0 }) (pre.length + 1) cap')
    have hst1 := ((hst.alloc _).kept hgrow (hst.not_row (by decide) hrow)).other (B' := W1.heap.size) (by omega) (Value.slice (some { block := g', off := 0 }) (pre.length + 1) cap')
    refine ⟨hk2.from _, hst1.trans hst.symm, ⟨_, hv2, ?_, trivial⟩, hbx1, hst1, hB.trans (hb2.mono (by omega))⟩
    rw [List.length_append, cellsOf_append]
    exact hr2
  case done =>
    rintro D ys W hD rfl ⟨⟨v, hv, hrow, -⟩, hbx, hst, hB⟩ hK
    have hc := hv.cell
    obtain ⟨ao, c, rfl, hra⟩ := row_of_owns hrow
    have hcb := hbx.cell
    have hfb := hbx.frozen
    have HRA := Lib.hid hra; have HB := Lib.hid hB
    clear hra hB hrow
    gi_wp2_with fail
    refine ⟨trivial, (callsIn_wide.2 (trimmed_any (chunks (bytes s)) ao c W HRA.out HCH1.out)).mono ?_⟩
    rintro e w2 ⟨v2, rfl, hv2, hb2⟩
    obtain ⟨a2, c2, rfl, hr2⟩ := hv2
    have hbx2 : Boxed w2 w.heap.size 79 (.slice none 0 0) := hbx.kept (grown_of_below hb2) (by simp)
    have hK2 : w2.heap[D]? = some (.deferred (some [])) := (hb2.block D (Array.getElem?_eq_some_iff.1 hK).1).trans hK
    have hcb2 := hbx2.cell
    have hfb2 := hbx2.frozen
    have HB2 := Lib.hid (Below.chain HB.out hb2); have HR2 := Lib.hid hr2
    clear hb2 hr2 hcb hfb hc
    gi_wp2
    have hDne : D ≠ w.heap.size := by simp at hD; have := HB1.out.size; omega
    have hK3 : (w2.setCell ⟨w.heap.size, 0, none⟩ (.slice a2 (limbs (val (chunks (bytes s)))).length c2)).heap[D]? = some (.deferred (some [])) := (Below.heap_setCell _ _ _ _ hDne).trans hK2
    refine ⟨by simp, .inl ⟨_, _, rfl, run_takeDeferred hK3, ?_⟩⟩
    have hc3 : ((w2.setCell ⟨w.heap.size, 0, none⟩ (.slice a2 (limbs (val (chunks (bytes s)))).length c2)).putObj D (.deferred none)).cell? ⟨w.heap.size, 0, none⟩ = some (.slice a2 (limbs (val (chunks (bytes s)))).length c2) := by
      rw [World.cell?_of_block (w := w2.setCell ⟨w.heap.size, 0, none⟩ (.slice a2 (limbs (val (chunks (bytes s)))).length c2)) (a := ⟨w.heap.size, 0, none⟩) (World.putObj_heap_other hDne.symm)]
      exact cellSet hcb2 _
    refine ⟨.tuple #[.agg #[.slice a2 (limbs (val (chunks (bytes s)))).length c2], .bool true], by simp [results, Tryz.results152, go_sem, hc3], _, rfl, ⟨a2, c2, by rw [HCH2.out], ?_⟩, ?_⟩
    · rw [← HCH2.out]; exact RowAt.put hK3 _ (HR2.out.box hcb2 _)
    · exact (HB2.out.setCell (p := ⟨w.heap.size, 0, none⟩) (Nat.le_refl _) _).trans (belowK_b (w := w) (Nat.le_refl _) _ D _ _ (by simp at hD; have := HB1.out.size; omega) hK3 rfl rfl)
  case stop =>
    rintro D c pre W _ _ h _
    exact h.elim

set_option maxHeartbeats 1000000 in
theorem parse_bad (s : ByteArray) (w : World) (hs : s.size ≤ 1000000000000) (hd : digB (bytes s) = false) :
    Calls Tryz.prog 152 #[.string s] w fun e w' => e = .returned (.tuple #[.agg #[.slice none 0 0], .bool false]) ∧ Below w.heap.size w w' := by
  have hall := allDigits_any s
  rw [hd] at hall
  have HALL := Lib.hid hall
  clear hall hd
  go_enter Tryz.func152, Tryz.ntmps152
  go_wp2_with fail
  refine (HALL.out _ (by omega)).mono ?_
  rintro e w' ⟨rfl, rfl⟩
  go_wp2
  go_returns
  exact ⟨rfl, by go_grown⟩
end Go.Proofs.YtipnnmbjkpidoaaGreatDoor

/-
  appendLimb: nine digits behind a text.
-/
namespace Go.Proofs.YtipnnmbjkpidoaaGreatDoor
open Go Go.Proofs Go.RowKit

/-- The first j of the nine digits of a limb. -/
def pre (u j : Nat) : List UInt8 := (List.range j).map fun i => UInt8.ofNat (48 + u / (100000000 / 10 ^ i) % 10)
theorem pre_length (u j : Nat) : (pre u j).length = j := by simp [pre]
theorem pre_succ (u j : Nat) : pre u (j + 1) = pre u j ++ [UInt8.ofNat (48 + u / (100000000 / 10 ^ j) % 10)] := by
  simp [pre, List.range_succ]
theorem pre_dig (u j : Nat) : AllDig (pre u j) := by
  intro c hc
  simp only [pre, List.mem_map, List.mem_range] at hc
  obtain ⟨i, -, rfl⟩ := hc
  exact isDig_ofNat _ (Nat.mod_lt _ (by decide))
theorem dec_pre (u : Nat) (hu : u < 1000000000) : dec (pre u 9) = u := by
  simp only [pre_succ, dec_snoc]
  have e : dec (pre u 0) = 0 := rfl
  rw [e]
  simp only [toNat_dig _ (Nat.mod_lt _ (by decide : 0 < 10))]
  simp only [Nat.reducePow, Nat.reduceDiv]
  omega

theorem infoU8 : (Tryz.prog.info? 5).map (fun i => (i.zero, i.size, i.bytes)) = some (some (.int .u8 0), 1, 1) := by kernel_rfl

theorem byteCells_append (a b : List UInt8) : Lib.byteCells (a ++ b) = Lib.byteCells a ++ Lib.byteCells b := by simp [Lib.byteCells]
theorem byteCells_length (a : List UInt8) : (Lib.byteCells a).length = a.length := by simp [Lib.byteCells]

theorem unit_pos : ∀ j, j < 9 → 0 < 100000000 / 10 ^ j := by decide
theorem unit_next : ∀ j, j < 9 → 100000000 / 10 ^ j / 10 = 100000000 / 10 ^ (j + 1) := by decide
theorem unit_le (j : Nat) : 100000000 / 10 ^ j ≤ 100000000 := Nat.div_le_self _ _

theorem digit_cell (u k j : Nat) (hu : u < 1000000000) (hk : 0 < k) (he : k = 100000000 / 10 ^ j) :
    [Value.int .u8 (48 + (u : Int) / (k : Int) % 4294967296 % 10)] = Lib.byteCells [UInt8.ofNat (48 + u / (100000000 / 10 ^ j) % 10)] := by
  subst he
  have h1 : u / (100000000 / 10 ^ j) ≤ u := Nat.div_le_self _ _
  simp only [Lib.byteCells, List.map_cons, List.map_nil]
  rw [toNat_dig _ (Nat.mod_lt _ (by decide))]
  congr 2
  generalize 100000000 / 10 ^ j = k at *
  rw [← Int.natCast_ediv]
  generalize u / k = q at *
  omega

set_option maxHeartbeats 1000000 in
theorem appendLimb_own (B n u : Nat) (hu : u < 1000000000) (sv : Value) (xs : List Value) (w : World) (hown0 : w.ownsRow B 5 1 sv n xs) (hB : B ≤ w.heap.size) (hlim : n + 20 ≤ 140737488355328) :
    Calls Tryz.prog 179 #[sv, .int .u32 u] w fun e w' => ∃ v', e = .returned v' ∧ w'.ownsRow B 5 1 v' (n + 9) (xs ++ Lib.byteCells (pre u 9)) ∧ Below B w w' := by
  obtain ⟨i0, hi, hz0, hz1, hz2⟩ := info_parts infoU8
  have HU := Lib.hid hu; clear hu
  go_enter Tryz.func179, Tryz.ntmps179
  go_wp2_with fail
  go_loopw [0, 5] (fun v m wr => ∃ j k : Nat, j ≤ 9 ∧ k = 100000000 / 10 ^ j ∧ m = .int .u32 k ∧ wr.ownsRow B 5 1 v (n + j) (xs ++ Lib.byteCells (pre u j)) ∧ Below B w wr) (fun _ m _ => (intOf m).toNat)
  case atStart => exact ⟨0, 100000000, by omega, rfl, rfl, by simpa [pre, Lib.byteCells] using hown0, Below.refl _ _⟩
  case round =>
    obtain ⟨j, k, hj, hk, rfl, hown, hbw⟩ := hrel
    by_cases hj9 : j = 9
    · have hk0 : k = 0 := by rw [hk, hj9]
      have hkn : decide (0 < k) = false := by simp; omega
      clear hk
      go_wp2
      subst hj9
      refine bodyPost_ret (v := u0) (by simp [results, Tryz.results179, go_sem]) rfl ⟨_, rfl, hown, hbw⟩
    · have hk1 : 0 < k := by have := unit_pos j (by omega); omega
      have hkle : k ≤ 100000000 := by have := unit_le j; omega
      have HK := Lib.hid hk; clear hk
      go_wp2_with (at_builtin; refine wpList_append_own _ rfl _ _ 127 rfl B 5 i0 (.int .u8 0) 1 1 Tryz.underlying127 hi hz0 hz1 hz2 rfl (by decide) _ _ _ rfl (hown.alloc _) ⟨wr.heap.size, 0, none⟩ 1 1 [.int .u8 (48 + (u : Int) / (k : Int) % 4294967296 % 10)] rfl rfl ?c1 ?c2 ?c3 ?c4 ?c5 ?_)
      case c1 => intro j u hj; match j, hj with | 0, hj => (simp at hj; subst hj; simp [Addr.add])
      case c2 => intro u hu; simp at hu; subst hu; rfl
      case c3 => unfold maxLen; omega
      case c4 => omega
      case c5 => have := hbw.size; simp; omega
      intro v' w1 hown' hgrow _
      go_wp2
      go_roundw
      case rel =>
        refine ⟨j + 1, k / 10, by omega, ?_, ?_, ?_, ?_⟩
        · rw [HK.out]; exact unit_next j (by omega)
        · exact congrArg (Value.int .u32) (by omega)
        · rw [pre_succ, byteCells_append, ← Nat.add_assoc, ← digit_cell u k j HU.out hk1 HK.out]
          exact hown'
        · exact hbw.trans (((Below.refl _ _).alloc (by have := hbw.size; omega) _).grown hgrow (by have := hbw.size; simp; omega) (fun k hk => ((hown.lt k hk)).1))
      case measure => simp only [intOf]; omega
end Go.Proofs.YtipnnmbjkpidoaaGreatDoor

/-
  strconv.AppendUint in base 10, for a limb: the library's contract, met by the caller that the program has.
-/
namespace Go.Proofs.YtipnnmbjkpidoaaGreatDoor
open Go Go.Proofs Go.RowKit

set_option maxHeartbeats 1000000 in
theorem appendUint_own (B n u : Nat) (hu : u < 1000000000) (sv : Value) (xs : List Value) (w : World) (hown0 : w.ownsRow B 5 1 sv n xs) (hB : B ≤ w.heap.size) (hlim : n + 20 ≤ 140737488355328) (htab : Lib.TabIs Tryz.prog w "internal/strconv.uint64pow10" .u64 Lib.pow10Tab) :
    Calls Tryz.prog 178 #[sv, .int .u64 u, .int .i64 10] w fun e w' => ∃ v', e = .returned v' ∧ w'.ownsRow B 5 1 v' (n + (Lib.decDigits u).length) (xs ++ Lib.byteCells (Lib.decDigits u)) ∧ Below B w w' := by
  have C : Calls Tryz.prog 199 #[sv, .int .u64 u, .int .i64 10] w fun e w' => ∃ v', e = .returned v' ∧ w'.ownsRow B 5 1 v' (n + (Lib.decDigits u).length) (xs ++ Lib.byteCells (Lib.decDigits u)) ∧ Below B w w' := by
    by_cases h : u < 100
    · exact (Tryz.internal_strconv_AppendUint_10_small B n u h sv xs w hown0 hB hlim).mono fun e w' ⟨v', h1, h2, h3, _⟩ => ⟨v', h1, h2, h3⟩
    · exact (Tryz.internal_strconv_AppendUint_10_big B n u (by omega) (by omega) sv xs w hown0 hB hlim htab).mono fun e w' ⟨v', h1, h2, h3, _⟩ => ⟨v', h1, h2, h3⟩
  clear hown0 htab
  go_enter Tryz.func178, Tryz.ntmps178
  go_wp2_with (go_at_call 199; refine C.mono ?_; rintro e w1 ⟨v1, rfl, hown1, hnx1⟩; refine Hid.out ?_)
  refine Lib.hid ?_
  go_wp2
  go_ret
  exact ⟨_, rfl, hown1, hnx1⟩
end Go.Proofs.YtipnnmbjkpidoaaGreatDoor
