import Derived.Test.YtjobmkdaaionlaaGreatDoorCut25
import Derived.ChangeMaps5
import Derived.Maps.Own
import Derived.Test.YtjobmkdaaionlaaGreatDoorCut1
import Derived.Test.YtjobmkdaaionlaaGreatDoorCut16

set_option linter.unusedVariables false
/-
  rational: parseBoth, text, reduced, Of, products.
-/
namespace Go.Proofs.YtjobmkdaaionlaaGreatDoor
open Go Go.Proofs Go.RowKit
def rerrBoth (a b : List UInt8) : Nat := if rerr a = 0 then rerr b else rerr a
def bothR (a b : List UInt8) : Value := if rerrBoth a b = 0 then .tuple #[fracV (str (topL a)) (str (botL a)), fracV (str (topL b)) (str (botL b)), .int .i64 0] else .tuple #[noFrac, noFrac, .int .i64 (rerrBoth a b : Nat)]
theorem rerrBoth_cases (a b : List UInt8) : rerrBoth a b = 0 ∨ rerrBoth a b = 3 ∨ rerrBoth a b = 10 := by
  unfold rerrBoth
  split
  · exact rerr_cases b
  · exact rerr_cases a
theorem rerrBoth_zero {a b : List UInt8} (h : rerrBoth a b = 0) : rerr a = 0 ∧ rerr b = 0 := by
  unfold rerrBoth at h
  split at h
  · next h1 => exact ⟨h1, h⟩
  · next h1 => exact absurd h h1
structure TBox (w W : World) (p : Nat) (a b c d : ByteArray) : Prop where
  a0 : W.cell? ⟨p, 0, none⟩ = some (.string a)
  a1 : W.cell? ⟨p, 1, none⟩ = some (.string b)
  c0 : W.cell? ⟨p + 1, 0, none⟩ = some (.string c)
  c1 : W.cell? ⟨p + 1, 1, none⟩ = some (.string d)
  f0 : W.frozen? ⟨p, 0, none⟩ = false
  f1 : W.frozen? ⟨p, 1, none⟩ = false
  f2 : W.frozen? ⟨p + 1, 0, none⟩ = false
  f3 : W.frozen? ⟨p + 1, 1, none⟩ = false
  sz : p + 1 < W.heap.size
  ps : w.heap.size ≤ p
  below : Below w.heap.size w W
theorem TBox.mono {w W W' : World} {p : Nat} {a b c d : ByteArray} (h : TBox w W p a b c d) (hb : Below W.heap.size W W') : TBox w W' p a b c d := by
  have hs := h.sz
  have hs' : p < W.heap.size := by omega
  exact ⟨(hb.cell (p := ⟨p, 0, none⟩) hs').trans h.a0, (hb.cell (p := ⟨p, 1, none⟩) hs').trans h.a1, (hb.cell (p := ⟨p + 1, 0, none⟩) hs).trans h.c0, (hb.cell (p := ⟨p + 1, 1, none⟩) hs).trans h.c1,
    (hb.frozen (p := ⟨p, 0, none⟩) hs').trans h.f0, (hb.frozen (p := ⟨p, 1, none⟩) hs').trans h.f1, (hb.frozen (p := ⟨p + 1, 0, none⟩) hs).trans h.f2, (hb.frozen (p := ⟨p + 1, 1, none⟩) hs).trans h.f3, Nat.lt_of_lt_of_le hs hb.size, h.ps, Below.chain h.below hb⟩
theorem TBox.set0 {w W : World} {p : Nat} {a b c d : ByteArray} (h : TBox w W p a b c d) (u v : ByteArray) : TBox w ((W.setCell ⟨p, 0, none⟩ (.string u)).setCell ⟨p, 1, none⟩ (.string v)) p u v c d := by
  refine ⟨?_, ?_, ?_, ?_, ?_, ?_, ?_, ?_, ?_, h.ps, ?_⟩
  · rw [World.cell?_setCell_other (h := by simp)]; exact cellSet h.a0 _
  · exact cellSet (u := .string b) (by rw [World.cell?_setCell_other (h := by simp)]; exact h.a1) _
  · rw [World.cell?_setCell_other (h := by simp), World.cell?_setCell_other (h := by simp)]; exact h.c0
  · rw [World.cell?_setCell_other (h := by simp), World.cell?_setCell_other (h := by simp)]; exact h.c1
  · rw [World.frozen?_setCell, World.frozen?_setCell]; exact h.f0
  · rw [World.frozen?_setCell, World.frozen?_setCell]; exact h.f1
  · rw [World.frozen?_setCell, World.frozen?_setCell]; exact h.f2
  · rw [World.frozen?_setCell, World.frozen?_setCell]; exact h.f3
  · have := h.sz; simpa [World.setCell] using this
  · exact (h.below.setCell (p := ⟨p, 0, none⟩) h.ps _).setCell (p := ⟨p, 1, none⟩) h.ps _
theorem TBox.set1 {w W : World} {p : Nat} {a b c d : ByteArray} (h : TBox w W p a b c d) (u v : ByteArray) : TBox w ((W.setCell ⟨p + 1, 0, none⟩ (.string u)).setCell ⟨p + 1, 1, none⟩ (.string v)) p a b u v := by
  refine ⟨?_, ?_, ?_, ?_, ?_, ?_, ?_, ?_, ?_, h.ps, ?_⟩
  · rw [World.cell?_setCell_other (h := by simp), World.cell?_setCell_other (h := by simp)]; exact h.a0
  · rw [World.cell?_setCell_other (h := by simp), World.cell?_setCell_other (h := by simp)]; exact h.a1
  · rw [World.cell?_setCell_other (h := by simp)]; exact cellSet h.c0 _
  · exact cellSet (u := .string d) (by rw [World.cell?_setCell_other (h := by simp)]; exact h.c1) _
  · rw [World.frozen?_setCell, World.frozen?_setCell]; exact h.f0
  · rw [World.frozen?_setCell, World.frozen?_setCell]; exact h.f1
  · rw [World.frozen?_setCell, World.frozen?_setCell]; exact h.f2
  · rw [World.frozen?_setCell, World.frozen?_setCell]; exact h.f3
  · have := h.sz; simpa [World.setCell] using this
  · have := h.ps
    exact (h.below.setCell (p := ⟨p + 1, 0, none⟩) (by simp; omega) _).setCell (p := ⟨p + 1, 1, none⟩) (by simp; omega) _
theorem tbox_new (w : World) (T : TypeId) (a b c d : ByteArray) : TBox w ((w.alloc (Obj.cells #[Value.string a, Value.string b] T)).alloc (Obj.cells #[Value.string c, Value.string d] T)) w.heap.size a b c d :=
  ⟨by go_cell, by go_cell, by go_cell, by go_cell, by go_cell, by go_cell, by go_cell, by go_cell, by simp, Nat.le_refl _, by go_grown⟩
set_option maxHeartbeats 2000000 in
theorem both_ok (s t u v x y : ByteArray) (w : World)
    (C1 : ∀ W, Below w.heap.size w W → Calls Tryz.prog 103 #[.string s] W (Bret (.tuple #[.agg #[.string u, .string v], .int .i64 0]) W))
    (C2 : ∀ W, Below w.heap.size w W → Calls Tryz.prog 103 #[.string t] W (Bret (.tuple #[.agg #[.string x, .string y], .int .i64 0]) W)) :
    Calls Tryz.prog 98 #[.string s, .string t] w (Bret (.tuple #[.agg #[.string u, .string v], .agg #[.string x, .string y], .int .i64 0]) w) := by
  have K1 := Lib.hid C1; clear C1
  have K2 := Lib.hid C2; clear C2
  have T0 := tbox_new w 123 ⟨#[]⟩ ⟨#[]⟩ ⟨#[]⟩ ⟨#[]⟩
  go_enter Tryz.func98, Tryz.ntmps98
  go_wp2_with (go_at_call 103; refine (K1.out _ T0.below).mono ?_; rintro e w1 ⟨rfl, hb1⟩; refine Hid.out ?_)
  have T1 := T0.mono hb1
  clear T0 hb1
  generalize hp : w.heap.size = p at *
  have HP := Lib.hid hp; clear hp
  have a0 := T1.a0; have a1 := T1.a1; have c0 := T1.c0; have c1 := T1.c1; have f0 := T1.f0; have f1 := T1.f1; have f2 := T1.f2; have f3 := T1.f3; have sz := T1.sz
  have H1 := Lib.hid T1; clear T1
  refine Lib.hid ?_
  go_wp2_with (go_at_call 103; refine (K2.out _ (HP.out ▸ (H1.out.set0 u v).below)).mono ?_; rintro e w2 ⟨rfl, hb2⟩; refine Hid.out ?_)
  have T2 := (H1.out.set0 u v).mono hb2
  clear a0 a1 c0 c1 f0 f1 f2 f3 sz
  clear H1 hb2
  have a0 := T2.a0; have a1 := T2.a1; have c0 := T2.c0; have c1 := T2.c1; have f0 := T2.f0; have f1 := T2.f1; have f2 := T2.f2; have f3 := T2.f3; have sz := T2.sz
  have H2 := Lib.hid T2; clear T2
  refine Lib.hid ?_
  go_wp2_with fail
  have T3 := H2.out.set1 x y
  clear a0 a1 c0 c1 f0 f1 f2 f3 sz
  clear H2
  generalize ((w2.setCell ⟨p + 1, 0, none⟩ (.string x)).setCell ⟨p + 1, 1, none⟩ (.string y)) = W3 at *
  have a0 := T3.a0; have a1 := T3.a1; have c0 := T3.c0; have c1 := T3.c1; have f0 := T3.f0; have f1 := T3.f1; have f2 := T3.f2; have f3 := T3.f3; have sz := T3.sz
  have H3 := Lib.hid T3; clear T3
  go_region
  all_goals
    go_wp2
    have F := ((H3.out.set0 u v).set1 x y).mono ((Below.refl _ _).drew)
    have q0 := F.a0; have q1 := F.a1; have q2 := F.c0; have q3 := F.c1
    refine bodyPost_ret (v := .tuple #[.agg #[.string u, .string v], .agg #[.string x, .string y], .int .i64 0]) (by simp [results, Tryz.results98, go_sem, q0, q1, q2, q3]) rfl ?_
    exact ⟨rfl, F.below⟩
set_option maxHeartbeats 2000000 in
theorem both_3 (s t : ByteArray) (w : World)
    (C1 : ∀ W, Below w.heap.size w W → Calls Tryz.prog 103 #[.string s] W (Bret (.tuple #[.agg #[.string ⟨#[]⟩, .string ⟨#[]⟩], .int .i64 3]) W)) :
    Calls Tryz.prog 98 #[.string s, .string t] w (Bret (.tuple #[.agg #[.string ⟨#[]⟩, .string ⟨#[]⟩], .agg #[.string ⟨#[]⟩, .string ⟨#[]⟩], .int .i64 3]) w) := by
  have K1 := Lib.hid C1; clear C1
  have T0 := tbox_new w 123 ⟨#[]⟩ ⟨#[]⟩ ⟨#[]⟩ ⟨#[]⟩
  go_enter Tryz.func98, Tryz.ntmps98
  go_wp2_with (go_at_call 103; refine (K1.out _ T0.below).mono ?_; rintro e w1 ⟨rfl, hb1⟩; refine Hid.out ?_)
  have T1 := T0.mono hb1
  clear T0 hb1
  generalize hp : w.heap.size = p at *
  have HP := Lib.hid hp; clear hp
  have a0 := T1.a0; have a1 := T1.a1; have c0 := T1.c0; have c1 := T1.c1; have f0 := T1.f0; have f1 := T1.f1; have f2 := T1.f2; have f3 := T1.f3; have sz := T1.sz
  have H1 := Lib.hid T1; clear T1
  refine Lib.hid ?_
  go_wp2
  have F := ((H1.out.set0 ⟨#[]⟩ ⟨#[]⟩).set0 ⟨#[]⟩ ⟨#[]⟩).set1 ⟨#[]⟩ ⟨#[]⟩
  have q0 := F.a0; have q1 := F.a1; have q2 := F.c0; have q3 := F.c1
  refine bodyPost_ret (v := .tuple #[.agg #[.string ⟨#[]⟩, .string ⟨#[]⟩], .agg #[.string ⟨#[]⟩, .string ⟨#[]⟩], .int .i64 3]) (by simp [results, Tryz.results98, go_sem, q0, q1, q2, q3]) rfl ?_
  exact ⟨rfl, F.below⟩
set_option maxHeartbeats 2000000 in
theorem both_10 (s t : ByteArray) (w : World)
    (C1 : ∀ W, Below w.heap.size w W → Calls Tryz.prog 103 #[.string s] W (Bret (.tuple #[.agg #[.string ⟨#[]⟩, .string ⟨#[]⟩], .int .i64 10]) W)) :
    Calls Tryz.prog 98 #[.string s, .string t] w (Bret (.tuple #[.agg #[.string ⟨#[]⟩, .string ⟨#[]⟩], .agg #[.string ⟨#[]⟩, .string ⟨#[]⟩], .int .i64 10]) w) := by
  have K1 := Lib.hid C1; clear C1
  have T0 := tbox_new w 123 ⟨#[]⟩ ⟨#[]⟩ ⟨#[]⟩ ⟨#[]⟩
  go_enter Tryz.func98, Tryz.ntmps98
  go_wp2_with (go_at_call 103; refine (K1.out _ T0.below).mono ?_; rintro e w1 ⟨rfl, hb1⟩; refine Hid.out ?_)
  have T1 := T0.mono hb1
  clear T0 hb1
  generalize hp : w.heap.size = p at *
  have HP := Lib.hid hp; clear hp
  have a0 := T1.a0; have a1 := T1.a1; have c0 := T1.c0; have c1 := T1.c1; have f0 := T1.f0; have f1 := T1.f1; have f2 := T1.f2; have f3 := T1.f3; have sz := T1.sz
  have H1 := Lib.hid T1; clear T1
  refine Lib.hid ?_
  go_wp2
  have F := ((H1.out.set0 ⟨#[]⟩ ⟨#[]⟩).set0 ⟨#[]⟩ ⟨#[]⟩).set1 ⟨#[]⟩ ⟨#[]⟩
  have q0 := F.a0; have q1 := F.a1; have q2 := F.c0; have q3 := F.c1
  refine bodyPost_ret (v := .tuple #[.agg #[.string ⟨#[]⟩, .string ⟨#[]⟩], .agg #[.string ⟨#[]⟩, .string ⟨#[]⟩], .int .i64 10]) (by simp [results, Tryz.results98, go_sem, q0, q1, q2, q3]) rfl ?_
  exact ⟨rfl, F.below⟩
set_option maxHeartbeats 2000000 in
theorem both_0_3 (s t u v : ByteArray) (w : World)
    (C1 : ∀ W, Below w.heap.size w W → Calls Tryz.prog 103 #[.string s] W (Bret (.tuple #[.agg #[.string u, .string v], .int .i64 0]) W))
    (C2 : ∀ W, Below w.heap.size w W → Calls Tryz.prog 103 #[.string t] W (Bret (.tuple #[.agg #[.string ⟨#[]⟩, .string ⟨#[]⟩], .int .i64 3]) W)) :
    Calls Tryz.prog 98 #[.string s, .string t] w (Bret (.tuple #[.agg #[.string ⟨#[]⟩, .string ⟨#[]⟩], .agg #[.string ⟨#[]⟩, .string ⟨#[]⟩], .int .i64 3]) w) := by
  have K1 := Lib.hid C1; clear C1
  have K2 := Lib.hid C2; clear C2
  have T0 := tbox_new w 123 ⟨#[]⟩ ⟨#[]⟩ ⟨#[]⟩ ⟨#[]⟩
  go_enter Tryz.func98, Tryz.ntmps98
  go_wp2_with (go_at_call 103; refine (K1.out _ T0.below).mono ?_; rintro e w1 ⟨rfl, hb1⟩; refine Hid.out ?_)
  have T1 := T0.mono hb1
  clear T0 hb1
  generalize hp : w.heap.size = p at *
  have HP := Lib.hid hp; clear hp
  have a0 := T1.a0; have a1 := T1.a1; have c0 := T1.c0; have c1 := T1.c1; have f0 := T1.f0; have f1 := T1.f1; have f2 := T1.f2; have f3 := T1.f3; have sz := T1.sz
  have H1 := Lib.hid T1; clear T1
  refine Lib.hid ?_
  go_wp2_with (go_at_call 103; refine (K2.out _ (HP.out ▸ (H1.out.set0 u v).below)).mono ?_; rintro e w2 ⟨rfl, hb2⟩; refine Hid.out ?_)
  have T2 := (H1.out.set0 u v).mono hb2
  clear a0 a1 c0 c1 f0 f1 f2 f3 sz
  clear H1 hb2
  have a0 := T2.a0; have a1 := T2.a1; have c0 := T2.c0; have c1 := T2.c1; have f0 := T2.f0; have f1 := T2.f1; have f2 := T2.f2; have f3 := T2.f3; have sz := T2.sz
  have H2 := Lib.hid T2; clear T2
  refine Lib.hid ?_
  go_wp2
  have F := ((H2.out.set1 ⟨#[]⟩ ⟨#[]⟩).set0 ⟨#[]⟩ ⟨#[]⟩).set1 ⟨#[]⟩ ⟨#[]⟩
  have q0 := F.a0; have q1 := F.a1; have q2 := F.c0; have q3 := F.c1
  refine bodyPost_ret (v := .tuple #[.agg #[.string ⟨#[]⟩, .string ⟨#[]⟩], .agg #[.string ⟨#[]⟩, .string ⟨#[]⟩], .int .i64 3]) (by simp [results, Tryz.results98, go_sem, q0, q1, q2, q3]) rfl ?_
  exact ⟨rfl, F.below⟩
set_option maxHeartbeats 2000000 in
theorem both_0_10 (s t u v : ByteArray) (w : World)
    (C1 : ∀ W, Below w.heap.size w W → Calls Tryz.prog 103 #[.string s] W (Bret (.tuple #[.agg #[.string u, .string v], .int .i64 0]) W))
    (C2 : ∀ W, Below w.heap.size w W → Calls Tryz.prog 103 #[.string t] W (Bret (.tuple #[.agg #[.string ⟨#[]⟩, .string ⟨#[]⟩], .int .i64 10]) W)) :
    Calls Tryz.prog 98 #[.string s, .string t] w (Bret (.tuple #[.agg #[.string ⟨#[]⟩, .string ⟨#[]⟩], .agg #[.string ⟨#[]⟩, .string ⟨#[]⟩], .int .i64 10]) w) := by
  have K1 := Lib.hid C1; clear C1
  have K2 := Lib.hid C2; clear C2
  have T0 := tbox_new w 123 ⟨#[]⟩ ⟨#[]⟩ ⟨#[]⟩ ⟨#[]⟩
  go_enter Tryz.func98, Tryz.ntmps98
  go_wp2_with (go_at_call 103; refine (K1.out _ T0.below).mono ?_; rintro e w1 ⟨rfl, hb1⟩; refine Hid.out ?_)
  have T1 := T0.mono hb1
  clear T0 hb1
  generalize hp : w.heap.size = p at *
  have HP := Lib.hid hp; clear hp
  have a0 := T1.a0; have a1 := T1.a1; have c0 := T1.c0; have c1 := T1.c1; have f0 := T1.f0; have f1 := T1.f1; have f2 := T1.f2; have f3 := T1.f3; have sz := T1.sz
  have H1 := Lib.hid T1; clear T1
  refine Lib.hid ?_
  go_wp2_with (go_at_call 103; refine (K2.out _ (HP.out ▸ (H1.out.set0 u v).below)).mono ?_; rintro e w2 ⟨rfl, hb2⟩; refine Hid.out ?_)
  have T2 := (H1.out.set0 u v).mono hb2
  clear a0 a1 c0 c1 f0 f1 f2 f3 sz
  clear H1 hb2
  have a0 := T2.a0; have a1 := T2.a1; have c0 := T2.c0; have c1 := T2.c1; have f0 := T2.f0; have f1 := T2.f1; have f2 := T2.f2; have f3 := T2.f3; have sz := T2.sz
  have H2 := Lib.hid T2; clear T2
  refine Lib.hid ?_
  go_wp2
  have F := ((H2.out.set1 ⟨#[]⟩ ⟨#[]⟩).set0 ⟨#[]⟩ ⟨#[]⟩).set1 ⟨#[]⟩ ⟨#[]⟩
  have q0 := F.a0; have q1 := F.a1; have q2 := F.c0; have q3 := F.c1
  refine bodyPost_ret (v := .tuple #[.agg #[.string ⟨#[]⟩, .string ⟨#[]⟩], .agg #[.string ⟨#[]⟩, .string ⟨#[]⟩], .int .i64 10]) (by simp [results, Tryz.results98, go_sem, q0, q1, q2, q3]) rfl ?_
  exact ⟨rfl, F.below⟩
theorem parseBoth_rat (s t : ByteArray) (w : World) (hs : s.size ≤ 1000000000) (ht : t.size ≤ 1000000000) (htab : Lib.TabIs Tryz.prog w "internal/strconv.uint64pow10" .u64 Lib.pow10Tab) :
    Calls Tryz.prog 98 #[.string s, .string t] w (Bret (bothR (bytes s) (bytes t)) w) := by
  have hT := Lib.tabBelow_of_tabIs htab
  have C1 : ∀ W : World, Below w.heap.size w W → Calls Tryz.prog 103 #[.string s] W (Bret (parseR (bytes s)) W) := fun W hW => parse_rat s W hs (hT.on hW).here
  have C2 : ∀ W : World, Below w.heap.size w W → Calls Tryz.prog 103 #[.string t] W (Bret (parseR (bytes t)) W) := fun W hW => parse_rat t W ht (hT.on hW).here
  unfold bothR rerrBoth
  unfold parseR at C1 C2
  rcases rerr_cases (bytes s) with h | h | h
  · rw [h] at C1 ⊢
    rw [if_pos rfl]
    rcases rerr_cases (bytes t) with k | k | k
    · rw [k] at C2 ⊢; exact both_ok s t _ _ _ _ w C1 C2
    · rw [k] at C2 ⊢; exact both_0_3 s t _ _ w C1 C2
    · rw [k] at C2 ⊢; exact both_0_10 s t _ _ w C1 C2
  · rw [h] at C1 ⊢; exact both_3 s t w C1
  · rw [h] at C1 ⊢; exact both_10 s t w C1
theorem str_cat (a b : List UInt8) : str a ++ str b = str (a ++ b) := str_append a b
theorem slash_str : (⟨#[47]⟩ : ByteArray) = str [47] := rfl
set_option maxHeartbeats 1000000 in
theorem text_rat (q : Rat) (w : World) (hn : (str (Lib.itoa q.num)).size ≤ 1000000) (hd : (str (Lib.itoa (q.den : Int))).size ≤ 1000000) :
    Calls Tryz.prog 135 #[fracV (str (Lib.itoa q.num)) (str (Lib.itoa (q.den : Int)))] w (Bret (.string (str (ratL q))) w) := by
  unfold fracV
  by_cases h : q.den = 1
  · have e : ratL q = Lib.itoa q.num := by unfold ratL; rw [if_pos h]
    have e2 : str (Lib.itoa (q.den : Int)) = ⟨#[49]⟩ := by rw [h]; exact lit_str s1
    rw [e, e2]
    generalize str (Lib.itoa q.num) = u at *
    clear e e2 h
    go_enter Tryz.func135, Tryz.ntmps135
    go_wp2
    refine bodyPost_ret (by simp [results, Tryz.results135, go_sem]; rfl) rfl ?_
    exact ⟨rfl, by go_grown⟩
  · have e : ratL q = Lib.itoa q.num ++ 47 :: Lib.itoa (q.den : Int) := by unfold ratL; rw [if_neg h]
    have e2 : str (ratL q) = (str (Lib.itoa q.num) ++ ⟨#[47]⟩) ++ str (Lib.itoa (q.den : Int)) := by rw [e, slash_str, str_cat, str_cat]; simp
    have hl := eqLit (str (Lib.itoa (q.den : Int))) [49] (fun k => h (by have := itoa_inj ((txt_str _).symm.trans (k.trans itoa_1.symm)); omega))
    rw [e2]
    clear e e2 h
    generalize str (Lib.itoa q.num) = u at *
    generalize str (Lib.itoa (q.den : Int)) = v at *
    have hsz : (u ++ ⟨#[47]⟩ : ByteArray).size ≤ 1000001 := by rw [ByteArray.size_append]; exact Nat.succ_le_succ hn
    go_enter Tryz.func135, Tryz.ntmps135
    go_wp2
    refine bodyPost_ret (by simp [results, Tryz.results135, go_sem]; rfl) rfl ?_
    exact ⟨rfl, by go_grown⟩
def sgcd (x y : Int) : Int := if y < 0 then -gcdI x y else gcdI x y
theorem sgcd_dvd (x y : Int) : sgcd x y ∣ x ∧ sgcd x y ∣ y := by
  have h1 : gcdI x y ∣ x := Int.gcd_dvd_left ..
  have h2 : gcdI x y ∣ y := Int.gcd_dvd_right ..
  unfold sgcd
  split
  · exact ⟨Int.neg_dvd.2 h1, Int.neg_dvd.2 h2⟩
  · exact ⟨h1, h2⟩
theorem gcdI_pos {x y : Int} (hy : y ≠ 0) : 0 < gcdI x y := by
  have := gcdI_nonneg x y
  have h : gcdI x y ≠ 0 := fun e => hy (gcdI_zero.1 e).2
  omega
theorem sgcd_ne {x y : Int} (hy : y ≠ 0) : sgcd x y ≠ 0 := by
  have := gcdI_pos (x := x) hy
  unfold sgcd; split <;> omega
theorem sgcd_natAbs (x y : Int) : (sgcd x y).natAbs = (gcdI x y).natAbs := by unfold sgcd; split <;> simp
theorem reduced_parts {x y : Int} (hy : y ≠ 0) : x.fdiv (sgcd x y) = (Rat.divInt x y).num ∧ y.fdiv (sgcd x y) = ((Rat.divInt x y).den : Int) := by
  have hg := sgcd_ne (x := x) hy
  obtain ⟨⟨a, ha⟩, ⟨b, hb⟩⟩ := sgcd_dvd x y
  have hn := sgcd_natAbs x y
  have hp := gcdI_pos (x := x) hy
  have hb0 : 0 < b := by
    have hs : sgcd x y = if y < 0 then -gcdI x y else gcdI x y := rfl
    by_cases h : y < 0
    · rw [if_pos h] at hs
      refine Int.pos_of_mul_neg_right (a := sgcd x y) ?_ (by omega)
      rw [← hb]; exact h
    · rw [if_neg h] at hs
      refine Int.pos_of_mul_pos_right (a := sgcd x y) ?_ (by omega)
      rw [← hb]; omega
  generalize sgcd x y = g at *
  subst ha
  subst hb
  have hgab : Int.gcd a b = 1 := by
    have h1 : Int.gcd (g * a) (g * b) = g.natAbs * Int.gcd a b := Int.gcd_mul_left ..
    rw [hn] at h1
    unfold gcdI at h1 hp
    rw [Int.natAbs_natCast] at h1
    have h2 : 0 < Int.gcd (g * a) (g * b) := by omega
    exact Nat.eq_of_mul_eq_mul_left h2 (by rw [← h1, Nat.mul_one])
  have e : Rat.divInt (g * a) (g * b) = Rat.divInt a b := Rat.divInt_mul_left hg
  obtain ⟨k1, k2⟩ := divInt_low hb0 hgab
  rw [e, k1, k2]
  exact ⟨Int.mul_fdiv_cancel_left _ hg, Int.mul_fdiv_cancel_left _ hg⟩
structure EBox (w W : World) (p : Nat) : Prop where
  r0 : W.cell? ⟨p, 0, none⟩ = some (.string ⟨#[]⟩)
  r1 : W.cell? ⟨p, 1, none⟩ = some (.string ⟨#[]⟩)
  f0 : W.frozen? ⟨p, 0, none⟩ = false
  f1 : W.frozen? ⟨p, 1, none⟩ = false
  sp : p < W.heap.size
  ps : w.heap.size ≤ p
  below : Below w.heap.size w W
theorem EBox.mono {w W W' : World} {p : Nat} (h : EBox w W p) (hb : Below W.heap.size W W') : EBox w W' p :=
  ⟨(hb.cell (p := ⟨p, 0, none⟩) h.sp).trans h.r0, (hb.cell (p := ⟨p, 1, none⟩) h.sp).trans h.r1, (hb.frozen (p := ⟨p, 0, none⟩) h.sp).trans h.f0, (hb.frozen (p := ⟨p, 1, none⟩) h.sp).trans h.f1, Nat.lt_of_lt_of_le h.sp hb.size, h.ps, Below.chain h.below hb⟩
theorem EBox.stored {w W : World} {p : Nat} (h : EBox w W p) (a b : ByteArray) :
    ((W.setCell ⟨p, 0, none⟩ (.string a)).setCell ⟨p, 1, none⟩ (.string b)).cell? ⟨p, 0, none⟩ = some (.string a) ∧
    ((W.setCell ⟨p, 0, none⟩ (.string a)).setCell ⟨p, 1, none⟩ (.string b)).cell? ⟨p, 1, none⟩ = some (.string b) ∧
    Below w.heap.size w ((W.setCell ⟨p, 0, none⟩ (.string a)).setCell ⟨p, 1, none⟩ (.string b)) := by
  refine ⟨?_, ?_, ?_⟩
  · rw [World.cell?_setCell_other (h := by simp)]; exact cellSet h.r0 _
  · exact cellSet (u := .string ⟨#[]⟩) (by rw [World.cell?_setCell_other (h := by simp)]; exact h.r1) _
  · exact (h.below.setCell (p := ⟨p, 0, none⟩) h.ps _).setCell (p := ⟨p, 1, none⟩) h.ps _
theorem ebox_new (w : World) (T : TypeId) : EBox w (w.alloc (Obj.cells #[Value.string ⟨#[]⟩, Value.string ⟨#[]⟩] T)) w.heap.size :=
  ⟨by go_cell, by go_cell, by go_cell, by go_cell, by simp, Nat.le_refl _, (Below.refl _ _).alloc (Nat.le_refl _) _⟩
theorem fdiv_one (x : Int) : x.fdiv 1 = x := by rw [Int.fdiv_eq_ediv_of_nonneg _ (by decide), Int.ediv_one]
theorem dash_str : (⟨#[45]⟩ : ByteArray) = str [45] := rfl
theorem dash_itoa {g : Int} (h : 0 < g) : (⟨#[45]⟩ : ByteArray) ++ str (Lib.itoa g) = str (Lib.itoa (-g)) := by
  rw [dash_str, str_cat, itoa_nonneg (by omega), itoa_neg (by omega), Int.natAbs_neg]; rfl
theorem itoa_ne_one {g : Int} (h : g ≠ 1) : ((str (Lib.itoa g)).toList == [49]) = false := eqLit _ [49] (fun e => h (itoa_inj ((txt_str _).symm.trans (e.trans itoa_1.symm))))
set_option maxHeartbeats 4000000 in
theorem reduced_rat (s t : ByteArray) (x y : Int) (w : World) (hs : Str s x) (ht : Str t y) (hy : y ≠ 0) (htab : Lib.TabIs Tryz.prog w "internal/strconv.uint64pow10" .u64 Lib.pow10Tab) :
    Calls Tryz.prog 134 #[.string s, .string t, .string (str (Lib.itoa (gcdI x y)))] w (Bret (fracV (str (Lib.itoa (Rat.divInt x y).num)) (str (Lib.itoa ((Rat.divInt x y).den : Int)))) w) := by
  obtain ⟨k1, k2⟩ := reduced_parts (x := x) hy
  have hT := Lib.tabBelow_of_tabIs htab
  have hp := gcdI_pos (x := x) hy
  have hg0 := sgcd_ne (x := x) hy
  have hgt : Str (str (Lib.itoa (sgcd x y))) (sgcd x y) := str_itoa (by rw [sgcd_natAbs]; exact (gcd_fits hs ht).len)
  have C1 : ∀ W : World, Below w.heap.size w W → Calls Tryz.prog 107 #[.string s, .string (str (Lib.itoa (sgcd x y)))] W (Bret (.tuple #[.string (str (Lib.itoa (Rat.divInt x y).num)), .int .i64 0]) W) := fun W hW => by
    have := quoZ s _ x _ W hs hgt hg0 (hT.on hW).here
    rwa [resV_lit (fdiv_len (t := t) hs hg0), k1] at this
  have C2 : ∀ W : World, Below w.heap.size w W → Calls Tryz.prog 107 #[.string t, .string (str (Lib.itoa (sgcd x y)))] W (Bret (.tuple #[.string (str (Lib.itoa ((Rat.divInt x y).den : Int))), .int .i64 0]) W) := fun W hW => by
    have := quoZ t _ y _ W ht hgt hg0 (hT.on hW).here
    rwa [resV_lit (fdiv_len (t := t) ht hg0), k2] at this
  have h1 : sgcd x y = 1 → str (Lib.itoa (Rat.divInt x y).num) = s ∧ str (Lib.itoa ((Rat.divInt x y).den : Int)) = t := fun e => by
    rw [e, fdiv_one] at k1 k2
    rw [← k1, ← k2]
    exact ⟨lit_str hs, lit_str ht⟩
  have hsz := ht.pos
  have hgk := byteAt_get t 0 hsz
  have hfirst := ht.first
  have hne1 : sgcd x y ≠ 1 → _ := itoa_ne_one
  have hdash := dash_itoa hp
  have hsg : sgcd x y = if y < 0 then -gcdI x y else gcdI x y := rfl
  have hdsz : (str (Lib.itoa (gcdI x y))).size ≤ 5000 := by have := (gcd_fits hs ht).size; omega
  unfold fracV
  clear k1 k2 hgt hg0 hT htab hs ht
  by_cases hyn : y < 0
  · have hb : byteAt t 0 = 45 := by simpa [hyn] using hfirst
    rw [hb] at hgk
    rw [if_pos hyn] at hsg
    rw [← hsg] at hdash
    have hn := hne1 (by omega)
    clear hne1 h1 hfirst hb hyn
    generalize str (Lib.itoa (Rat.divInt x y).num) = r1 at *
    generalize str (Lib.itoa ((Rat.divInt x y).den : Int)) = r2 at *
    generalize str (Lib.itoa (sgcd x y)) = d at *
    generalize str (Lib.itoa (gcdI x y)) = d0 at *
    have K1 := Lib.hid C1; have K2 := Lib.hid C2
    clear C1 C2 hsg hp hy
    subst hdash
    have X0 := ebox_new w 123
    go_enter Tryz.func134, Tryz.ntmps134
    go_wp2_with (go_at_call_of 107 s; refine (K1.out _ X0.below).mono ?_; rintro e w1 ⟨rfl, hb1⟩; refine Hid.out ?_)
    have X1 := X0.mono hb1
    clear X0 hb1
    refine Lib.hid ?_
    go_wp2_with (go_at_call_of 107 t; refine (K2.out _ X1.below).mono ?_; rintro e w2 ⟨rfl, hb2⟩; refine Hid.out ?_)
    have X2 := X1.mono hb2
    clear X1 hb2
    have r0 := X2.r0; have r1' := X2.r1; have f0 := X2.f0; have f1 := X2.f1; have sp := X2.sp
    have HX := Lib.hid X2; clear X2
    refine Lib.hid ?_
    go_wp2
    obtain ⟨q0, q1, hbF⟩ := HX.out.stored r1 r2
    refine bodyPost_ret (v := .agg #[.string r1, .string r2]) (by simp [results, Tryz.results134, go_sem, q0, q1]) rfl ?_
    exact ⟨rfl, hbF⟩
  · have hb : byteAt t 0 ≠ 45 := by simpa [hyn] using hfirst
    rw [if_neg hyn] at hsg
    rw [hsg] at C1 C2 hne1 h1
    clear hdash hfirst
    generalize byteAt t 0 = b0 at *
    have hbb : ((b0 : Int) == 45) = false := by simp; omega
    by_cases hg1 : gcdI x y = 1
    · obtain ⟨e1, e2⟩ := h1 hg1
      rw [e1, e2, hg1, lit_str s1]
      clear C1 C2 hne1 h1 hsg hg1 e1 e2 hp hy hyn
      have X0 := ebox_new w 123
      go_enter Tryz.func134, Tryz.ntmps134
      go_wp2
      refine bodyPost_ret (v := .agg #[.string s, .string t]) (by simp [results, Tryz.results134, go_sem]) rfl ?_
      exact ⟨rfl, by go_grown⟩
    · have hn := hne1 hg1
      generalize str (Lib.itoa (Rat.divInt x y).num) = r1 at *
      generalize str (Lib.itoa ((Rat.divInt x y).den : Int)) = r2 at *
      generalize str (Lib.itoa (gcdI x y)) = d at *
      have K1 := Lib.hid C1; have K2 := Lib.hid C2
      clear C1 C2 hsg hp hy hne1 h1 hyn hg1
      have X0 := ebox_new w 123
      go_enter Tryz.func134, Tryz.ntmps134
      go_wp2_with (go_at_call_of 107 s; refine (K1.out _ X0.below).mono ?_; rintro e w1 ⟨rfl, hb1⟩; refine Hid.out ?_)
      have X1 := X0.mono hb1
      clear X0 hb1
      refine Lib.hid ?_
      go_wp2_with (go_at_call_of 107 t; refine (K2.out _ X1.below).mono ?_; rintro e w2 ⟨rfl, hb2⟩; refine Hid.out ?_)
      have X2 := X1.mono hb2
      clear X1 hb2
      have r0 := X2.r0; have r1' := X2.r1; have f0 := X2.f0; have f1 := X2.f1; have sp := X2.sp
      have HX := Lib.hid X2; clear X2
      refine Lib.hid ?_
      go_wp2
      obtain ⟨q0, q1, hbF⟩ := HX.out.stored r1 r2
      refine bodyPost_ret (v := .agg #[.string r1, .string r2]) (by simp [results, Tryz.results134, go_sem, q0, q1]) rfl ?_
      exact ⟨rfl, hbF⟩
theorem divInt_strs {s t : ByteArray} {x y : Int} (hs : Str s x) (ht : Str t y) (hy : y ≠ 0) : Str (str (Lib.itoa (Rat.divInt x y).num)) (Rat.divInt x y).num ∧ Str (str (Lib.itoa ((Rat.divInt x y).den : Int))) ((Rat.divInt x y).den : Int) := by
  obtain ⟨k1, k2⟩ := reduced_parts (x := x) hy
  rw [← k1, ← k2]
  exact ⟨fdiv_len (t := t) hs (sgcd_ne hy), fdiv_len (t := t) ht (sgcd_ne hy)⟩
set_option maxHeartbeats 2000000 in
theorem of_rat (s t : ByteArray) (x y : Int) (w : World) (hs : Str s x) (ht : Str t y) (hy : y ≠ 0) (htab : Lib.TabIs Tryz.prog w "internal/strconv.uint64pow10" .u64 Lib.pow10Tab) :
    Calls Tryz.prog 100 #[.string s, .string t] w (Bret (.tuple #[.string (str (ratL (Rat.divInt x y))), .int .i64 0]) w) := by
  have hT := Lib.tabBelow_of_tabIs htab
  have C1 : ∀ W : World, Below w.heap.size w W → Calls Tryz.prog 106 #[.string s, .string t] W (Bret (.tuple #[.string (str (Lib.itoa (gcdI x y))), .int .i64 0]) W) := fun W hW => by
    have : Calls Tryz.prog 106 #[.string s, .string t] W (Bret (resV (gcdI x y)) W) := gcdZ s t x y W hs ht (hT.on hW).here
    rwa [resV_lit (r := gcdI x y) (gcd_fits hs ht)] at this
  have C2 : ∀ W : World, Below w.heap.size w W → Calls Tryz.prog 134 #[.string s, .string t, .string (str (Lib.itoa (gcdI x y)))] W (Bret (fracV (str (Lib.itoa (Rat.divInt x y).num)) (str (Lib.itoa ((Rat.divInt x y).den : Int)))) W) := fun W hW => reduced_rat s t x y W hs ht hy (hT.on hW).here
  obtain ⟨j1, j2⟩ := divInt_strs (t := t) hs ht hy
  have C3 := fun W => text_rat (Rat.divInt x y) W (by have := j1.size; omega) (by have := j2.size; omega)
  clear j1 j2
  have hne := eq48 t (ht.ne_zero hy)
  unfold fracV at *
  generalize str (ratL (Rat.divInt x y)) = r4 at *
  generalize str (Lib.itoa (Rat.divInt x y).num) = r3 at *
  generalize str (Lib.itoa ((Rat.divInt x y).den : Int)) = r2 at *
  generalize str (Lib.itoa (gcdI x y)) = r1 at *
  have K1 := Lib.hid C1; have K2 := Lib.hid C2; have K3 := Lib.hid C3
  clear C1 C2 C3 hs ht hy hT htab
  go_enter Tryz.func100, Tryz.ntmps100
  go_wp2_with (go_at_call 106; refine (K1.out _ (Below.refl _ _)).mono ?_; rintro e w1 ⟨rfl, hb1⟩; refine Hid.out ?_)
  refine Lib.hid ?_
  go_wp2_with (go_at_call 134; refine (K2.out _ hb1).mono ?_; rintro e w2 ⟨rfl, hb2⟩; refine Hid.out ?_)
  have hB2 := Below.chain hb1 hb2; clear hb2 hb1
  refine Lib.hid ?_
  go_wp2_with (go_at_call 135; refine (K3.out _).mono ?_; rintro e w3 ⟨rfl, hb3⟩; refine Hid.out ?_)
  have hB3 := Below.chain hB2 hb3; clear hb3 hB2
  refine Lib.hid ?_
  go_wp2
  refine bodyPost_ret (by simp [results, Tryz.results100, go_sem]; rfl) rfl ?_
  exact ⟨rfl, hB3⟩
def Fits (z : Int) : Prop := ¬ 4096 < (Lib.decDigits z.natAbs).length
instance (z : Int) : Decidable (Fits z) := inferInstanceAs (Decidable (¬ _))
def prodR (x y : Int) : Value := if Fits x ∧ Fits y then .tuple #[.string (str (Lib.itoa x)), .string (str (Lib.itoa y)), .int .i64 0] else .tuple #[.string ⟨#[]⟩, .string ⟨#[]⟩, .int .i64 10]
set_option maxHeartbeats 2000000 in
theorem products_rat (s t u v : ByteArray) (x y z q : Int) (w : World) (hs : Str s x) (ht : Str t y) (hu : Str u z) (hv : Str v q) (htab : Lib.TabIs Tryz.prog w "internal/strconv.uint64pow10" .u64 Lib.pow10Tab) :
    Calls Tryz.prog 132 #[.string s, .string t, .string u, .string v] w (Bret (prodR (x * y) (z * q)) w) := by
  have hT := Lib.tabBelow_of_tabIs htab
  have C1 : ∀ W : World, Below w.heap.size w W → Calls Tryz.prog 108 #[.string s, .string t] W (Bret (resV (x * y)) W) := fun W hW => mulZ s t x y W hs ht (hT.on hW).here
  have C2 : ∀ W : World, Below w.heap.size w W → Calls Tryz.prog 108 #[.string u, .string v] W (Bret (resV (z * q)) W) := fun W hW => mulZ u v z q W hu hv (hT.on hW).here
  unfold prodR Fits
  clear hs ht hu hv hT htab
  generalize x * y = m at *
  generalize z * q = n at *
  by_cases h1 : 4096 < (Lib.decDigits m.natAbs).length
  · rw [if_neg (fun h => h.1 h1)]
    rw [resV_long h1] at C1
    have K1 := Lib.hid C1; clear C1 C2 h1
    go_enter Tryz.func132, Tryz.ntmps132
    go_wp2_with (go_at_call 108; refine (K1.out _ (Below.refl _ _)).mono ?_; rintro e w1 ⟨rfl, hb1⟩; refine Hid.out ?_)
    refine Lib.hid ?_
    go_wp2
    refine bodyPost_ret (by simp [results, Tryz.results132, go_sem]; rfl) rfl ?_
    exact ⟨rfl, hb1⟩
  · rw [resV_fits h1] at C1
    by_cases h2 : 4096 < (Lib.decDigits n.natAbs).length
    · rw [if_neg (fun h => h.2 h2)]
      rw [resV_long h2] at C2
      generalize str (Lib.itoa m) = r1 at *
      have K1 := Lib.hid C1; have K2 := Lib.hid C2; clear C1 C2 h1 h2
      go_enter Tryz.func132, Tryz.ntmps132
      go_wp2_with (go_at_call 108; refine (K1.out _ (Below.refl _ _)).mono ?_; rintro e w1 ⟨rfl, hb1⟩; refine Hid.out ?_)
      refine Lib.hid ?_
      go_wp2_with (go_at_call 108; refine (K2.out _ hb1).mono ?_; rintro e w2 ⟨rfl, hb2⟩; refine Hid.out ?_)
      have hB2 := Below.chain hb1 hb2; clear hb2 hb1
      refine Lib.hid ?_
      go_wp2
      refine bodyPost_ret (by simp [results, Tryz.results132, go_sem]; rfl) rfl ?_
      exact ⟨rfl, hB2⟩
    · rw [if_pos ⟨h1, h2⟩]
      rw [resV_fits h2] at C2
      generalize str (Lib.itoa m) = r1 at *
      generalize str (Lib.itoa n) = r2 at *
      have K1 := Lib.hid C1; have K2 := Lib.hid C2; clear C1 C2 h1 h2
      go_enter Tryz.func132, Tryz.ntmps132
      go_wp2_with (go_at_call 108; refine (K1.out _ (Below.refl _ _)).mono ?_; rintro e w1 ⟨rfl, hb1⟩; refine Hid.out ?_)
      refine Lib.hid ?_
      go_wp2_with (go_at_call 108; refine (K2.out _ hb1).mono ?_; rintro e w2 ⟨rfl, hb2⟩; refine Hid.out ?_)
      have hB2 := Below.chain hb1 hb2; clear hb2 hb1
      refine Lib.hid ?_
      go_wp2
      refine bodyPost_ret (by simp [results, Tryz.results132, go_sem]; rfl) rfl ?_
      exact ⟨rfl, hB2⟩
theorem ops_desc : Tryz.prog.underlying 150 = some (.map 5 128) := by kernel_rfl
theorem u8_desc : Tryz.prog.underlying 5 = some (.int .u8) := by kernel_rfl
theorem run_push {w : World} {b : Nat} {es : Array MapEntry} {clock : Nat} (hb : w.heap[b]? = some (.map es clock)) (k : Int) (v : Value)
    (h1 : Instr.findNow (.int .u8) (.int .u8 k) es.toList 0 = some none) :
    (Instr.mapUpdate 150 (.map (some b)) (.int .u8 k) v).run Tryz.prog w = .ok () (Go.ChangeMaps.setBlock w b (.map (es.push ⟨.int .u8 k, v, clock⟩) (clock + 1))) := by
  have hkey : MapKept.IsKey (.int .u8) (.int .u8 k) := rfl
  simp [Instr.mapUpdate, run_underlying ops_desc, MapKept.run_getObj_map hb, MapKept.run_checkKey u8_desc hkey, MapKept.run_findKey u8_desc h1, MapKept.run_setObj_map _ hb, Result.andThen, Go.ChangeMaps.setBlock]
theorem run_look {w : World} {b : Nat} {es : Array MapEntry} {clock : Nat} (hb : w.heap[b]? = some (.map es clock)) (k : Int) (i : Nat) (v : Value)
    (h1 : Instr.findNow (.int .u8) (.int .u8 k) es.toList 0 = some (some (i, v))) :
    (Instr.lookup 150 (.map (some b)) (.int .u8 k) false).run Tryz.prog w = .ok v w := by
  have hkey : MapKept.IsKey (.int .u8) (.int .u8 k) := rfl
  simp [Instr.lookup, run_underlying ops_desc, MapKept.run_getObj_map hb, MapKept.run_checkKey u8_desc hkey, MapKept.run_findKey u8_desc h1, Result.andThen]
theorem setBlock_below {w0 w : World} {b : Nat} (h : Below w0.heap.size w0 w) (hb : w0.heap.size ≤ b) (o : Obj) : Below w0.heap.size w0 (Go.ChangeMaps.setBlock w b o) := by
  refine h.trans ⟨rfl, rfl, rfl, by simp [Go.ChangeMaps.setBlock], fun i hi => ?_⟩
  simp [Go.ChangeMaps.setBlock]
  rw [Array.getElem?_setIfInBounds_ne (by omega)]
def opF (n : Nat) : Value := .func (.func n) #[] #[]
theorem ops_runs (w : World) : ∃ W1 W2 W3 W4 : World,
    (Instr.mapUpdate 150 (.map (some w.heap.size)) (.int .u8 43) (opF 126)).run Tryz.prog (w.alloc (.map #[] 0)) = .ok () W1 ∧
    (Instr.mapUpdate 150 (.map (some w.heap.size)) (.int .u8 45) (opF 129)).run Tryz.prog W1 = .ok () W2 ∧
    (Instr.mapUpdate 150 (.map (some w.heap.size)) (.int .u8 42) (opF 131)).run Tryz.prog W2 = .ok () W3 ∧
    (Instr.mapUpdate 150 (.map (some w.heap.size)) (.int .u8 47) (opF 133)).run Tryz.prog W3 = .ok () W4 ∧
    (Instr.lookup 150 (.map (some w.heap.size)) (.int .u8 43) false).run Tryz.prog W4 = .ok (opF 126) W4 ∧
    (Instr.lookup 150 (.map (some w.heap.size)) (.int .u8 45) false).run Tryz.prog W4 = .ok (opF 129) W4 ∧
    (Instr.lookup 150 (.map (some w.heap.size)) (.int .u8 42) false).run Tryz.prog W4 = .ok (opF 131) W4 ∧
    (Instr.lookup 150 (.map (some w.heap.size)) (.int .u8 47) false).run Tryz.prog W4 = .ok (opF 133) W4 ∧
    Below w.heap.size w W4 := by
  have h0 : (w.alloc (.map #[] 0)).heap[w.heap.size]? = some (.map #[] 0) := (MapKept.heap_alloc w _).1
  have B0 : Below w.heap.size w (w.alloc (.map #[] 0)) := (Below.refl _ _).alloc (Nat.le_refl _) _
  have r1 := run_push h0 43 (opF 126) rfl
  have h1 := Go.ChangeMaps.heap_setBlock_same h0 (.map (#[].push ⟨.int .u8 43, opF 126, 0⟩) (0 + 1))
  have B1 := setBlock_below B0 (Nat.le_refl _) (.map (#[].push ⟨.int .u8 43, opF 126, 0⟩) (0 + 1))
  have r2 := run_push h1 45 (opF 129) rfl
  have h2 := Go.ChangeMaps.heap_setBlock_same h1 (.map ((#[].push ⟨.int .u8 43, opF 126, 0⟩).push ⟨.int .u8 45, opF 129, 0 + 1⟩) (0 + 1 + 1))
  have B2 := setBlock_below B1 (Nat.le_refl _) (.map ((#[].push ⟨.int .u8 43, opF 126, 0⟩).push ⟨.int .u8 45, opF 129, 0 + 1⟩) (0 + 1 + 1))
  have r3 := run_push h2 42 (opF 131) rfl
  have h3 := Go.ChangeMaps.heap_setBlock_same h2 (.map (((#[].push ⟨.int .u8 43, opF 126, 0⟩).push ⟨.int .u8 45, opF 129, 0 + 1⟩).push ⟨.int .u8 42, opF 131, 0 + 1 + 1⟩) (0 + 1 + 1 + 1))
  have B3 := setBlock_below B2 (Nat.le_refl _) (.map (((#[].push ⟨.int .u8 43, opF 126, 0⟩).push ⟨.int .u8 45, opF 129, 0 + 1⟩).push ⟨.int .u8 42, opF 131, 0 + 1 + 1⟩) (0 + 1 + 1 + 1))
  have r4 := run_push h3 47 (opF 133) rfl
  have h4 := Go.ChangeMaps.heap_setBlock_same h3 (.map ((((#[].push ⟨.int .u8 43, opF 126, 0⟩).push ⟨.int .u8 45, opF 129, 0 + 1⟩).push ⟨.int .u8 42, opF 131, 0 + 1 + 1⟩).push ⟨.int .u8 47, opF 133, 0 + 1 + 1 + 1⟩) (0 + 1 + 1 + 1 + 1))
  have B4 := setBlock_below B3 (Nat.le_refl _) (.map ((((#[].push ⟨.int .u8 43, opF 126, 0⟩).push ⟨.int .u8 45, opF 129, 0 + 1⟩).push ⟨.int .u8 42, opF 131, 0 + 1 + 1⟩).push ⟨.int .u8 47, opF 133, 0 + 1 + 1 + 1⟩) (0 + 1 + 1 + 1 + 1))
  exact ⟨_, _, _, _, r1, r2, r3, r4, run_look h4 43 0 _ rfl, run_look h4 45 1 _ rfl, run_look h4 42 2 _ rfl, run_look h4 47 3 _ rfl, B4⟩
set_option maxHeartbeats 1000000 in
theorem operationOf_runs (w : World) (k : Int) (f : Value) (hk : k = 43 ∧ f = opF 126 ∨ k = 45 ∧ f = opF 129 ∨ k = 42 ∧ f = opF 131 ∨ k = 47 ∧ f = opF 133) :
    Calls Tryz.prog 99 #[.int .u8 k] w (Bret f w) := by
  obtain ⟨W1, W2, W3, W4, r1, r2, r3, r4, l1, l2, l3, l4, hB⟩ := ops_runs w
  have hmm := @run_makeMap Tryz.prog
  have HB := Lib.hid hB; clear hB
  unfold opF at *
  rcases hk with ⟨rfl, rfl⟩ | ⟨rfl, rfl⟩ | ⟨rfl, rfl⟩ | ⟨rfl, rfl⟩
  all_goals
    go_enter Tryz.func99, Tryz.ntmps99
    go_wp2
    refine bodyPost_ret (by simp [results, Tryz.results99, go_sem]; rfl) rfl ?_
    exact ⟨rfl, HB.out⟩
end Go.Proofs.YtjobmkdaaionlaaGreatDoor
