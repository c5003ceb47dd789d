import Derived.Test.YtjobmkdaaionlaaGreatDoorCut24

set_option linter.unusedVariables false
/-
  rational: parse, parseBoth.
-/
namespace Go.Proofs.YtjobmkdaaionlaaGreatDoor
open Go Go.Proofs Go.RowKit
def fracV (u v : ByteArray) : Value := .agg #[.string u, .string v]
def noFrac : Value := .agg #[.string ⟨#[]⟩, .string ⟨#[]⟩]
def parseR (l : List UInt8) : Value := if rerr l = 0 then .tuple #[fracV (str (topL l)) (str (botL l)), .int .i64 0] else .tuple #[noFrac, .int .i64 (rerr l : Nat)]
structure PBox (w W : World) (p q : Nat) (u v : ByteArray) : Prop where
  x0 : W.cell? ⟨q, 0, none⟩ = some (.string u)
  x1 : W.cell? ⟨q, 1, none⟩ = some (.string v)
  r0 : W.cell? ⟨p, 0, none⟩ = some (.string ⟨#[]⟩)
  r1 : W.cell? ⟨p, 1, none⟩ = some (.string ⟨#[]⟩)
  f0 : W.frozen? ⟨p, 0, none⟩ = false
  f1 : W.frozen? ⟨p, 1, none⟩ = false
  sp : p < W.heap.size
  sq : q < W.heap.size
  ps : w.heap.size ≤ p
  below : Below w.heap.size w W
theorem PBox.mono {w W W' : World} {p q : Nat} {u v : ByteArray} (h : PBox w W p q u v) (hb : Below W.heap.size W W') : PBox w W' p q u v :=
  ⟨(hb.cell (p := ⟨q, 0, none⟩) h.sq).trans h.x0, (hb.cell (p := ⟨q, 1, none⟩) h.sq).trans h.x1, (hb.cell (p := ⟨p, 0, none⟩) h.sp).trans h.r0, (hb.cell (p := ⟨p, 1, none⟩) h.sp).trans h.r1, (hb.frozen (p := ⟨p, 0, none⟩) h.sp).trans h.f0, (hb.frozen (p := ⟨p, 1, none⟩) h.sp).trans h.f1, Nat.lt_of_lt_of_le h.sp hb.size, Nat.lt_of_lt_of_le h.sq hb.size, h.ps, Below.chain h.below hb⟩
theorem PBox.stored {w W : World} {p q : Nat} {u v : ByteArray} (h : PBox w W p q u v) (a b : ByteArray) :
    ((W.setCell ⟨p, 0, none⟩ (.string a)).setCell ⟨p, 1, none⟩ (.string b)).cell? ⟨p, 0, none⟩ = some (.string a) ∧
    ((W.setCell ⟨p, 0, none⟩ (.string a)).setCell ⟨p, 1, none⟩ (.string b)).cell? ⟨p, 1, none⟩ = some (.string b) ∧
    Below w.heap.size w ((W.setCell ⟨p, 0, none⟩ (.string a)).setCell ⟨p, 1, none⟩ (.string b)) := by
  refine ⟨?_, ?_, ?_⟩
  · rw [World.cell?_setCell_other (h := by simp)]; exact cellSet h.r0 _
  · exact cellSet (u := .string ⟨#[]⟩) (by rw [World.cell?_setCell_other (h := by simp)]; exact h.r1) _
  · exact (h.below.setCell (p := ⟨p, 0, none⟩) h.ps _).setCell (p := ⟨p, 1, none⟩) h.ps _
theorem pbox_new (w w1 : World) (u v : ByteArray) (T : TypeId) (hb : Below (w.alloc (Obj.cells #[Value.string ⟨#[]⟩, Value.string ⟨#[]⟩] T)).heap.size (w.alloc (Obj.cells #[Value.string ⟨#[]⟩, Value.string ⟨#[]⟩] T)) w1) :
    PBox w (w1.alloc (Obj.cells #[Value.string u, Value.string v] T)) w.heap.size w1.heap.size u v := by
  have c0 : (w.alloc (Obj.cells #[Value.string ⟨#[]⟩, Value.string ⟨#[]⟩] T)).cell? ⟨w.heap.size, 0, none⟩ = some (.string ⟨#[]⟩) := by go_cell
  have c1 : (w.alloc (Obj.cells #[Value.string ⟨#[]⟩, Value.string ⟨#[]⟩] T)).cell? ⟨w.heap.size, 1, none⟩ = some (.string ⟨#[]⟩) := by go_cell
  have f0 : (w.alloc (Obj.cells #[Value.string ⟨#[]⟩, Value.string ⟨#[]⟩] T)).frozen? ⟨w.heap.size, 0, none⟩ = false := by go_cell
  have f1 : (w.alloc (Obj.cells #[Value.string ⟨#[]⟩, Value.string ⟨#[]⟩] T)).frozen? ⟨w.heap.size, 1, none⟩ = false := by go_cell
  have s0 : w.heap.size < (w.alloc (Obj.cells #[Value.string ⟨#[]⟩, Value.string ⟨#[]⟩] T)).heap.size := by simp
  have B0 : Below w.heap.size w (w.alloc (Obj.cells #[Value.string ⟨#[]⟩, Value.string ⟨#[]⟩] T)) := (Below.refl _ _).alloc (Nat.le_refl _) _
  generalize w.alloc (Obj.cells #[Value.string ⟨#[]⟩, Value.string ⟨#[]⟩] T) = W0 at *
  have B1 : Below w1.heap.size w1 (w1.alloc (Obj.cells #[Value.string u, Value.string v] T)) := (Below.refl _ _).alloc (Nat.le_refl _) _
  have B2 := Below.chain hb B1
  exact ⟨by go_cell, by go_cell, (B2.cell (p := ⟨w.heap.size, 0, none⟩) s0).trans c0, (B2.cell (p := ⟨w.heap.size, 1, none⟩) s0).trans c1, (B2.frozen (p := ⟨w.heap.size, 0, none⟩) s0).trans f0, (B2.frozen (p := ⟨w.heap.size, 1, none⟩) s0).trans f1, Nat.lt_of_lt_of_le s0 B2.size, by simp, Nat.le_refl _, Below.chain B0 B2⟩
set_option maxHeartbeats 2000000 in
theorem parse_n0 (s u : ByteArray) (w : World)
    (C1 : ∀ W, Calls Tryz.prog 87 #[.string s, .string ⟨#[47]⟩] W fun e w' => e = .returned (.tuple #[.string u, .string ⟨#[]⟩, .bool false]) ∧ Below W.heap.size W w')
    (CU : ∀ W, Calls Tryz.prog 138 #[.string u] W fun e w' => e = .returned (.int .i64 (0 : Nat)) ∧ w' = W)
    (CV : ∀ W, Calls Tryz.prog 138 #[.string ⟨#[49]⟩] W fun e w' => e = .returned (.int .i64 (0 : Nat)) ∧ w' = W) :
    Calls Tryz.prog 103 #[.string s] w (Bret (.tuple #[.agg #[.string u, .string ⟨#[49]⟩], .int .i64 0]) w) := by
  have K1 := Lib.hid C1; have KU := Lib.hid CU; have KV := Lib.hid CV; clear C1 CU CV
  go_enter Tryz.func103, Tryz.ntmps103
  go_wp2_with (go_at_call 87; refine (K1.out _).mono ?_; rintro e w1 ⟨rfl, hb1⟩; refine Hid.out ?_)
  have X0 := pbox_new w w1 u ⟨#[49]⟩ 123 hb1
  clear hb1
  refine Lib.hid ?_
  go_wp2_with fail
  generalize w1.alloc (Obj.cells #[Value.string u, Value.string ⟨#[49]⟩] 123) = W at *
  generalize w1.heap.size = q at *
  generalize hp : w.heap.size = p at *
  have HX0 := Lib.hid X0
  have x0 := X0.x0; have x1 := X0.x1
  have HP := Lib.hid hp
  clear X0 hp
  go_quiet ((first | (go_at_call_of 138 u; exact Calls.quiet_of_same (KU.out _)) | (go_at_call 138; exact Calls.quiet_of_same (KV.out _))))
  have X1 := HX0.out.mono (below_drewN (Below.refl _ _) nq)
  clear x0 x1 HX0
  generalize World.drewN W nq = W2 at *
  have x0 := X1.x0; have x1 := X1.x1; have r0 := X1.r0; have r1 := X1.r1; have f0 := X1.f0; have f1 := X1.f1; have sp := X1.sp; have sq := X1.sq
  have HX1 := Lib.hid X1; clear X1
  refine Lib.hid ?_
  go_wp2
  obtain ⟨q0, q1, hbF⟩ := HX1.out.stored u ⟨#[49]⟩
  refine bodyPost_ret (v := .tuple #[.agg #[.string u, .string ⟨#[49]⟩], .int .i64 0]) (by simp [results, Tryz.results103, go_sem, q0, q1]) rfl ?_
  exact ⟨rfl, hbF⟩
set_option maxHeartbeats 2000000 in
theorem parse_n3 (s u : ByteArray) (w : World)
    (C1 : ∀ W, Calls Tryz.prog 87 #[.string s, .string ⟨#[47]⟩] W fun e w' => e = .returned (.tuple #[.string u, .string ⟨#[]⟩, .bool false]) ∧ Below W.heap.size W w')
    (CU : ∀ W, Calls Tryz.prog 138 #[.string u] W fun e w' => e = .returned (.int .i64 (3 : Nat)) ∧ w' = W)
    (CV : ∀ W, Calls Tryz.prog 138 #[.string ⟨#[49]⟩] W fun e w' => e = .returned (.int .i64 (0 : Nat)) ∧ w' = W) :
    Calls Tryz.prog 103 #[.string s] w (Bret (.tuple #[.agg #[.string ⟨#[]⟩, .string ⟨#[]⟩], .int .i64 3]) w) := by
  have K1 := Lib.hid C1; have KU := Lib.hid CU; have KV := Lib.hid CV; clear C1 CU CV
  go_enter Tryz.func103, Tryz.ntmps103
  go_wp2_with (go_at_call 87; refine (K1.out _).mono ?_; rintro e w1 ⟨rfl, hb1⟩; refine Hid.out ?_)
  have X0 := pbox_new w w1 u ⟨#[49]⟩ 123 hb1
  clear hb1
  refine Lib.hid ?_
  go_wp2_with fail
  generalize w1.alloc (Obj.cells #[Value.string u, Value.string ⟨#[49]⟩] 123) = W at *
  generalize w1.heap.size = q at *
  generalize hp : w.heap.size = p at *
  have HX0 := Lib.hid X0
  have x0 := X0.x0; have x1 := X0.x1
  have HP := Lib.hid hp
  clear X0 hp
  go_quiet ((first | (go_at_call_of 138 u; exact Calls.quiet_of_same (KU.out _)) | (go_at_call 138; exact Calls.quiet_of_same (KV.out _))))
  have X1 := HX0.out.mono (below_drewN (Below.refl _ _) nq)
  clear x0 x1 HX0
  generalize World.drewN W nq = W2 at *
  have x0 := X1.x0; have x1 := X1.x1; have r0 := X1.r0; have r1 := X1.r1; have f0 := X1.f0; have f1 := X1.f1; have sp := X1.sp; have sq := X1.sq
  have HX1 := Lib.hid X1; clear X1
  refine Lib.hid ?_
  go_wp2
  obtain ⟨q0, q1, hbF⟩ := HX1.out.stored ⟨#[]⟩ ⟨#[]⟩
  refine bodyPost_ret (v := .tuple #[.agg #[.string ⟨#[]⟩, .string ⟨#[]⟩], .int .i64 3]) (by simp [results, Tryz.results103, go_sem, q0, q1]) rfl ?_
  exact ⟨rfl, hbF⟩
set_option maxHeartbeats 2000000 in
theorem parse_n10 (s u : ByteArray) (w : World)
    (C1 : ∀ W, Calls Tryz.prog 87 #[.string s, .string ⟨#[47]⟩] W fun e w' => e = .returned (.tuple #[.string u, .string ⟨#[]⟩, .bool false]) ∧ Below W.heap.size W w')
    (CU : ∀ W, Calls Tryz.prog 138 #[.string u] W fun e w' => e = .returned (.int .i64 (10 : Nat)) ∧ w' = W)
    (CV : ∀ W, Calls Tryz.prog 138 #[.string ⟨#[49]⟩] W fun e w' => e = .returned (.int .i64 (0 : Nat)) ∧ w' = W) :
    Calls Tryz.prog 103 #[.string s] w (Bret (.tuple #[.agg #[.string ⟨#[]⟩, .string ⟨#[]⟩], .int .i64 10]) w) := by
  have K1 := Lib.hid C1; have KU := Lib.hid CU; have KV := Lib.hid CV; clear C1 CU CV
  go_enter Tryz.func103, Tryz.ntmps103
  go_wp2_with (go_at_call 87; refine (K1.out _).mono ?_; rintro e w1 ⟨rfl, hb1⟩; refine Hid.out ?_)
  have X0 := pbox_new w w1 u ⟨#[49]⟩ 123 hb1
  clear hb1
  refine Lib.hid ?_
  go_wp2_with fail
  generalize w1.alloc (Obj.cells #[Value.string u, Value.string ⟨#[49]⟩] 123) = W at *
  generalize w1.heap.size = q at *
  generalize hp : w.heap.size = p at *
  have HX0 := Lib.hid X0
  have x0 := X0.x0; have x1 := X0.x1
  have HP := Lib.hid hp
  clear X0 hp
  go_quiet ((first | (go_at_call_of 138 u; exact Calls.quiet_of_same (KU.out _)) | (go_at_call 138; exact Calls.quiet_of_same (KV.out _))))
  have X1 := HX0.out.mono (below_drewN (Below.refl _ _) nq)
  clear x0 x1 HX0
  generalize World.drewN W nq = W2 at *
  have x0 := X1.x0; have x1 := X1.x1; have r0 := X1.r0; have r1 := X1.r1; have f0 := X1.f0; have f1 := X1.f1; have sp := X1.sp; have sq := X1.sq
  have HX1 := Lib.hid X1; clear X1
  refine Lib.hid ?_
  go_wp2
  obtain ⟨q0, q1, hbF⟩ := HX1.out.stored ⟨#[]⟩ ⟨#[]⟩
  refine bodyPost_ret (v := .tuple #[.agg #[.string ⟨#[]⟩, .string ⟨#[]⟩], .int .i64 10]) (by simp [results, Tryz.results103, go_sem, q0, q1]) rfl ?_
  exact ⟨rfl, hbF⟩
set_option maxHeartbeats 2000000 in
theorem parse_f3 (s u v : ByteArray) (w : World) (e2 : Nat)
    (C1 : ∀ W, Calls Tryz.prog 87 #[.string s, .string ⟨#[47]⟩] W fun e w' => e = .returned (.tuple #[.string u, .string v, .bool true]) ∧ Below W.heap.size W w')
    (CU : ∀ W, Calls Tryz.prog 138 #[.string u] W fun e w' => e = .returned (.int .i64 (3 : Nat)) ∧ w' = W)
    (CV : ∀ W, Calls Tryz.prog 138 #[.string v] W fun e w' => e = .returned (.int .i64 (e2 : Nat)) ∧ w' = W) :
    Calls Tryz.prog 103 #[.string s] w (Bret (.tuple #[.agg #[.string ⟨#[]⟩, .string ⟨#[]⟩], .int .i64 3]) w) := by
  have K1 := Lib.hid C1; have KU := Lib.hid CU; have KV := Lib.hid CV; clear C1 CU CV
  go_enter Tryz.func103, Tryz.ntmps103
  go_wp2_with (go_at_call 87; refine (K1.out _).mono ?_; rintro e w1 ⟨rfl, hb1⟩; refine Hid.out ?_)
  have X0 := pbox_new w w1 u v 123 hb1
  clear hb1
  refine Lib.hid ?_
  go_wp2_with fail
  generalize w1.alloc (Obj.cells #[Value.string u, Value.string v] 123) = W at *
  generalize w1.heap.size = q at *
  generalize hp : w.heap.size = p at *
  have HX0 := Lib.hid X0
  have x0 := X0.x0; have x1 := X0.x1
  have HP := Lib.hid hp
  clear X0 hp
  go_quiet ((first | (go_at_call_of 138 u; exact Calls.quiet_of_same (KU.out _)) | (go_at_call 138; exact Calls.quiet_of_same (KV.out _))))
  have X1 := HX0.out.mono (below_drewN (Below.refl _ _) nq)
  clear x0 x1 HX0
  generalize World.drewN W nq = W2 at *
  have x0 := X1.x0; have x1 := X1.x1; have r0 := X1.r0; have r1 := X1.r1; have f0 := X1.f0; have f1 := X1.f1; have sp := X1.sp; have sq := X1.sq
  have HX1 := Lib.hid X1; clear X1
  refine Lib.hid ?_
  go_wp2
  obtain ⟨q0, q1, hbF⟩ := HX1.out.stored ⟨#[]⟩ ⟨#[]⟩
  refine bodyPost_ret (v := .tuple #[.agg #[.string ⟨#[]⟩, .string ⟨#[]⟩], .int .i64 3]) (by simp [results, Tryz.results103, go_sem, q0, q1]) rfl ?_
  exact ⟨rfl, hbF⟩
set_option maxHeartbeats 2000000 in
theorem parse_f0_3 (s u v : ByteArray) (w : World)
    (C1 : ∀ W, Calls Tryz.prog 87 #[.string s, .string ⟨#[47]⟩] W fun e w' => e = .returned (.tuple #[.string u, .string v, .bool true]) ∧ Below W.heap.size W w')
    (CU : ∀ W, Calls Tryz.prog 138 #[.string u] W fun e w' => e = .returned (.int .i64 (0 : Nat)) ∧ w' = W)
    (CV : ∀ W, Calls Tryz.prog 138 #[.string v] W fun e w' => e = .returned (.int .i64 (3 : Nat)) ∧ w' = W) :
    Calls Tryz.prog 103 #[.string s] w (Bret (.tuple #[.agg #[.string ⟨#[]⟩, .string ⟨#[]⟩], .int .i64 3]) w) := by
  have K1 := Lib.hid C1; have KU := Lib.hid CU; have KV := Lib.hid CV; clear C1 CU CV
  go_enter Tryz.func103, Tryz.ntmps103
  go_wp2_with (go_at_call 87; refine (K1.out _).mono ?_; rintro e w1 ⟨rfl, hb1⟩; refine Hid.out ?_)
  have X0 := pbox_new w w1 u v 123 hb1
  clear hb1
  refine Lib.hid ?_
  go_wp2_with fail
  generalize w1.alloc (Obj.cells #[Value.string u, Value.string v] 123) = W at *
  generalize w1.heap.size = q at *
  generalize hp : w.heap.size = p at *
  have HX0 := Lib.hid X0
  have x0 := X0.x0; have x1 := X0.x1
  have HP := Lib.hid hp
  clear X0 hp
  go_quiet ((first | (go_at_call_of 138 u; exact Calls.quiet_of_same (KU.out _)) | (go_at_call 138; exact Calls.quiet_of_same (KV.out _))))
  have X1 := HX0.out.mono (below_drewN (Below.refl _ _) nq)
  clear x0 x1 HX0
  generalize World.drewN W nq = W2 at *
  have x0 := X1.x0; have x1 := X1.x1; have r0 := X1.r0; have r1 := X1.r1; have f0 := X1.f0; have f1 := X1.f1; have sp := X1.sp; have sq := X1.sq
  have HX1 := Lib.hid X1; clear X1
  refine Lib.hid ?_
  go_wp2
  obtain ⟨q0, q1, hbF⟩ := HX1.out.stored ⟨#[]⟩ ⟨#[]⟩
  refine bodyPost_ret (v := .tuple #[.agg #[.string ⟨#[]⟩, .string ⟨#[]⟩], .int .i64 3]) (by simp [results, Tryz.results103, go_sem, q0, q1]) rfl ?_
  exact ⟨rfl, hbF⟩
set_option maxHeartbeats 2000000 in
theorem parse_f10_3 (s u v : ByteArray) (w : World)
    (C1 : ∀ W, Calls Tryz.prog 87 #[.string s, .string ⟨#[47]⟩] W fun e w' => e = .returned (.tuple #[.string u, .string v, .bool true]) ∧ Below W.heap.size W w')
    (CU : ∀ W, Calls Tryz.prog 138 #[.string u] W fun e w' => e = .returned (.int .i64 (10 : Nat)) ∧ w' = W)
    (CV : ∀ W, Calls Tryz.prog 138 #[.string v] W fun e w' => e = .returned (.int .i64 (3 : Nat)) ∧ w' = W) :
    Calls Tryz.prog 103 #[.string s] w (Bret (.tuple #[.agg #[.string ⟨#[]⟩, .string ⟨#[]⟩], .int .i64 3]) w) := by
  have K1 := Lib.hid C1; have KU := Lib.hid CU; have KV := Lib.hid CV; clear C1 CU CV
  go_enter Tryz.func103, Tryz.ntmps103
  go_wp2_with (go_at_call 87; refine (K1.out _).mono ?_; rintro e w1 ⟨rfl, hb1⟩; refine Hid.out ?_)
  have X0 := pbox_new w w1 u v 123 hb1
  clear hb1
  refine Lib.hid ?_
  go_wp2_with fail
  generalize w1.alloc (Obj.cells #[Value.string u, Value.string v] 123) = W at *
  generalize w1.heap.size = q at *
  generalize hp : w.heap.size = p at *
  have HX0 := Lib.hid X0
  have x0 := X0.x0; have x1 := X0.x1
  have HP := Lib.hid hp
  clear X0 hp
  go_quiet ((first | (go_at_call_of 138 u; exact Calls.quiet_of_same (KU.out _)) | (go_at_call 138; exact Calls.quiet_of_same (KV.out _))))
  have X1 := HX0.out.mono (below_drewN (Below.refl _ _) nq)
  clear x0 x1 HX0
  generalize World.drewN W nq = W2 at *
  have x0 := X1.x0; have x1 := X1.x1; have r0 := X1.r0; have r1 := X1.r1; have f0 := X1.f0; have f1 := X1.f1; have sp := X1.sp; have sq := X1.sq
  have HX1 := Lib.hid X1; clear X1
  refine Lib.hid ?_
  go_wp2
  obtain ⟨q0, q1, hbF⟩ := HX1.out.stored ⟨#[]⟩ ⟨#[]⟩
  refine bodyPost_ret (v := .tuple #[.agg #[.string ⟨#[]⟩, .string ⟨#[]⟩], .int .i64 3]) (by simp [results, Tryz.results103, go_sem, q0, q1]) rfl ?_
  exact ⟨rfl, hbF⟩
set_option maxHeartbeats 2000000 in
theorem parse_f0_0_low (s u v : ByteArray) (w : World)
    (C1 : ∀ W, Calls Tryz.prog 87 #[.string s, .string ⟨#[47]⟩] W fun e w' => e = .returned (.tuple #[.string u, .string v, .bool true]) ∧ Below W.heap.size W w')
    (CU : ∀ W, Calls Tryz.prog 138 #[.string u] W fun e w' => e = .returned (.int .i64 (0 : Nat)) ∧ w' = W)
    (CV : ∀ W, Calls Tryz.prog 138 #[.string v] W fun e w' => e = .returned (.int .i64 (0 : Nat)) ∧ w' = W)
    (CA : ∀ W, Calls Tryz.prog 139 #[.string v] W fun e w' => e = .returned (.bool false) ∧ w' = W) :
    Calls Tryz.prog 103 #[.string s] w (Bret (.tuple #[.agg #[.string ⟨#[]⟩, .string ⟨#[]⟩], .int .i64 3]) w) := by
  have K1 := Lib.hid C1; have KU := Lib.hid CU; have KV := Lib.hid CV; have KA := Lib.hid CA; clear C1 CU CV CA
  go_enter Tryz.func103, Tryz.ntmps103
  go_wp2_with (go_at_call 87; refine (K1.out _).mono ?_; rintro e w1 ⟨rfl, hb1⟩; refine Hid.out ?_)
  have X0 := pbox_new w w1 u v 123 hb1
  clear hb1
  refine Lib.hid ?_
  go_wp2_with fail
  generalize w1.alloc (Obj.cells #[Value.string u, Value.string v] 123) = W at *
  generalize w1.heap.size = q at *
  generalize hp : w.heap.size = p at *
  have HX0 := Lib.hid X0
  have x0 := X0.x0; have x1 := X0.x1
  have HP := Lib.hid hp
  clear X0 hp
  go_quiet ((first | (go_at_call_of 138 u; exact Calls.quiet_of_same (KU.out _)) | (go_at_call 138; exact Calls.quiet_of_same (KV.out _))))
  have X1 := HX0.out.mono (below_drewN (Below.refl _ _) nq)
  clear x0 x1 HX0
  generalize World.drewN W nq = W2 at *
  have x0 := X1.x0; have x1 := X1.x1; have r0 := X1.r0; have r1 := X1.r1; have f0 := X1.f0; have f1 := X1.f1; have sp := X1.sp; have sq := X1.sq
  have HX1 := Lib.hid X1; clear X1
  refine Lib.hid ?_
  go_wp2_with (go_at_call 139; refine (KA.out _).mono ?_; rintro e w3 ⟨rfl, h⟩; subst h; refine Hid.out ?_)
  refine Lib.hid ?_
  go_wp2
  obtain ⟨q0, q1, hbF⟩ := HX1.out.stored ⟨#[]⟩ ⟨#[]⟩
  refine bodyPost_ret (v := .tuple #[.agg #[.string ⟨#[]⟩, .string ⟨#[]⟩], .int .i64 3]) (by simp [results, Tryz.results103, go_sem, q0, q1]) rfl ?_
  exact ⟨rfl, hbF⟩
set_option maxHeartbeats 2000000 in
theorem parse_f0_0_false (s u v : ByteArray) (w : World)
    (C1 : ∀ W, Calls Tryz.prog 87 #[.string s, .string ⟨#[47]⟩] W fun e w' => e = .returned (.tuple #[.string u, .string v, .bool true]) ∧ Below W.heap.size W w')
    (CU : ∀ W, Calls Tryz.prog 138 #[.string u] W fun e w' => e = .returned (.int .i64 (0 : Nat)) ∧ w' = W)
    (CV : ∀ W, Calls Tryz.prog 138 #[.string v] W fun e w' => e = .returned (.int .i64 (0 : Nat)) ∧ w' = W)
    (CA : ∀ W, Calls Tryz.prog 139 #[.string v] W fun e w' => e = .returned (.bool true) ∧ w' = W)
    (CN : ∀ W, Below w.heap.size w W → Calls Tryz.prog 140 #[.string u, .string v] W (Bret (.bool false) W)) :
    Calls Tryz.prog 103 #[.string s] w (Bret (.tuple #[.agg #[.string ⟨#[]⟩, .string ⟨#[]⟩], .int .i64 3]) w) := by
  have K1 := Lib.hid C1; have KU := Lib.hid CU; have KV := Lib.hid CV; have KA := Lib.hid CA; have KN := Lib.hid CN; clear C1 CU CV CA CN
  go_enter Tryz.func103, Tryz.ntmps103
  go_wp2_with (go_at_call 87; refine (K1.out _).mono ?_; rintro e w1 ⟨rfl, hb1⟩; refine Hid.out ?_)
  have X0 := pbox_new w w1 u v 123 hb1
  clear hb1
  refine Lib.hid ?_
  go_wp2_with fail
  generalize w1.alloc (Obj.cells #[Value.string u, Value.string v] 123) = W at *
  generalize w1.heap.size = q at *
  generalize hp : w.heap.size = p at *
  have HX0 := Lib.hid X0
  have x0 := X0.x0; have x1 := X0.x1
  have HP := Lib.hid hp
  clear X0 hp
  go_quiet ((first | (go_at_call_of 138 u; exact Calls.quiet_of_same (KU.out _)) | (go_at_call 138; exact Calls.quiet_of_same (KV.out _))))
  have X1 := HX0.out.mono (below_drewN (Below.refl _ _) nq)
  clear x0 x1 HX0
  generalize World.drewN W nq = W2 at *
  have x0 := X1.x0; have x1 := X1.x1; have r0 := X1.r0; have r1 := X1.r1; have f0 := X1.f0; have f1 := X1.f1; have sp := X1.sp; have sq := X1.sq
  have HX1 := Lib.hid X1; clear X1
  refine Lib.hid ?_
  go_wp2_with (go_at_call 139; refine (KA.out _).mono ?_; rintro e w3 ⟨rfl, h⟩; subst h; refine Hid.out ?_)
  refine Lib.hid ?_
  go_wp2_with (go_at_call 140; refine (KN.out _ (HP.out ▸ HX1.out.below)).mono ?_; rintro e w4 ⟨rfl, hb4⟩; refine Hid.out ?_)
  have X2 := HX1.out.mono hb4
  clear x0 x1 r0 r1 f0 f1 sp sq HX1 hb4
  have x0 := X2.x0; have x1 := X2.x1; have r0 := X2.r0; have r1 := X2.r1; have f0 := X2.f0; have f1 := X2.f1; have sp := X2.sp; have sq := X2.sq
  have HX2 := Lib.hid X2; clear X2
  refine Lib.hid ?_
  go_wp2
  obtain ⟨q0, q1, hbF⟩ := HX2.out.stored ⟨#[]⟩ ⟨#[]⟩
  refine bodyPost_ret (v := .tuple #[.agg #[.string ⟨#[]⟩, .string ⟨#[]⟩], .int .i64 3]) (by simp [results, Tryz.results103, go_sem, q0, q1]) rfl ?_
  exact ⟨rfl, hbF⟩
set_option maxHeartbeats 2000000 in
theorem parse_f0_0_true (s u v : ByteArray) (w : World)
    (C1 : ∀ W, Calls Tryz.prog 87 #[.string s, .string ⟨#[47]⟩] W fun e w' => e = .returned (.tuple #[.string u, .string v, .bool true]) ∧ Below W.heap.size W w')
    (CU : ∀ W, Calls Tryz.prog 138 #[.string u] W fun e w' => e = .returned (.int .i64 (0 : Nat)) ∧ w' = W)
    (CV : ∀ W, Calls Tryz.prog 138 #[.string v] W fun e w' => e = .returned (.int .i64 (0 : Nat)) ∧ w' = W)
    (CA : ∀ W, Calls Tryz.prog 139 #[.string v] W fun e w' => e = .returned (.bool true) ∧ w' = W)
    (CN : ∀ W, Below w.heap.size w W → Calls Tryz.prog 140 #[.string u, .string v] W (Bret (.bool true) W)) :
    Calls Tryz.prog 103 #[.string s] w (Bret (.tuple #[.agg #[.string u, .string v], .int .i64 0]) w) := by
  have K1 := Lib.hid C1; have KU := Lib.hid CU; have KV := Lib.hid CV; have KA := Lib.hid CA; have KN := Lib.hid CN; clear C1 CU CV CA CN
  go_enter Tryz.func103, Tryz.ntmps103
  go_wp2_with (go_at_call 87; refine (K1.out _).mono ?_; rintro e w1 ⟨rfl, hb1⟩; refine Hid.out ?_)
  have X0 := pbox_new w w1 u v 123 hb1
  clear hb1
  refine Lib.hid ?_
  go_wp2_with fail
  generalize w1.alloc (Obj.cells #[Value.string u, Value.string v] 123) = W at *
  generalize w1.heap.size = q at *
  generalize hp : w.heap.size = p at *
  have HX0 := Lib.hid X0
  have x0 := X0.x0; have x1 := X0.x1
  have HP := Lib.hid hp
  clear X0 hp
  go_quiet ((first | (go_at_call_of 138 u; exact Calls.quiet_of_same (KU.out _)) | (go_at_call 138; exact Calls.quiet_of_same (KV.out _))))
  have X1 := HX0.out.mono (below_drewN (Below.refl _ _) nq)
  clear x0 x1 HX0
  generalize World.drewN W nq = W2 at *
  have x0 := X1.x0; have x1 := X1.x1; have r0 := X1.r0; have r1 := X1.r1; have f0 := X1.f0; have f1 := X1.f1; have sp := X1.sp; have sq := X1.sq
  have HX1 := Lib.hid X1; clear X1
  refine Lib.hid ?_
  go_wp2_with (go_at_call 139; refine (KA.out _).mono ?_; rintro e w3 ⟨rfl, h⟩; subst h; refine Hid.out ?_)
  refine Lib.hid ?_
  go_wp2_with (go_at_call 140; refine (KN.out _ (HP.out ▸ HX1.out.below)).mono ?_; rintro e w4 ⟨rfl, hb4⟩; refine Hid.out ?_)
  have X2 := HX1.out.mono hb4
  clear x0 x1 r0 r1 f0 f1 sp sq HX1 hb4
  have x0 := X2.x0; have x1 := X2.x1; have r0 := X2.r0; have r1 := X2.r1; have f0 := X2.f0; have f1 := X2.f1; have sp := X2.sp; have sq := X2.sq
  have HX2 := Lib.hid X2; clear X2
  refine Lib.hid ?_
  go_wp2
  obtain ⟨q0, q1, hbF⟩ := HX2.out.stored u v
  refine bodyPost_ret (v := .tuple #[.agg #[.string u, .string v], .int .i64 0]) (by simp [results, Tryz.results103, go_sem, q0, q1]) rfl ?_
  exact ⟨rfl, hbF⟩
set_option maxHeartbeats 2000000 in
theorem parse_f0_10_low (s u v : ByteArray) (w : World)
    (C1 : ∀ W, Calls Tryz.prog 87 #[.string s, .string ⟨#[47]⟩] W fun e w' => e = .returned (.tuple #[.string u, .string v, .bool true]) ∧ Below W.heap.size W w')
    (CU : ∀ W, Calls Tryz.prog 138 #[.string u] W fun e w' => e = .returned (.int .i64 (0 : Nat)) ∧ w' = W)
    (CV : ∀ W, Calls Tryz.prog 138 #[.string v] W fun e w' => e = .returned (.int .i64 (10 : Nat)) ∧ w' = W)
    (CA : ∀ W, Calls Tryz.prog 139 #[.string v] W fun e w' => e = .returned (.bool false) ∧ w' = W) :
    Calls Tryz.prog 103 #[.string s] w (Bret (.tuple #[.agg #[.string ⟨#[]⟩, .string ⟨#[]⟩], .int .i64 3]) w) := by
  have K1 := Lib.hid C1; have KU := Lib.hid CU; have KV := Lib.hid CV; have KA := Lib.hid CA; clear C1 CU CV CA
  go_enter Tryz.func103, Tryz.ntmps103
  go_wp2_with (go_at_call 87; refine (K1.out _).mono ?_; rintro e w1 ⟨rfl, hb1⟩; refine Hid.out ?_)
  have X0 := pbox_new w w1 u v 123 hb1
  clear hb1
  refine Lib.hid ?_
  go_wp2_with fail
  generalize w1.alloc (Obj.cells #[Value.string u, Value.string v] 123) = W at *
  generalize w1.heap.size = q at *
  generalize hp : w.heap.size = p at *
  have HX0 := Lib.hid X0
  have x0 := X0.x0; have x1 := X0.x1
  have HP := Lib.hid hp
  clear X0 hp
  go_quiet ((first | (go_at_call_of 138 u; exact Calls.quiet_of_same (KU.out _)) | (go_at_call 138; exact Calls.quiet_of_same (KV.out _))))
  have X1 := HX0.out.mono (below_drewN (Below.refl _ _) nq)
  clear x0 x1 HX0
  generalize World.drewN W nq = W2 at *
  have x0 := X1.x0; have x1 := X1.x1; have r0 := X1.r0; have r1 := X1.r1; have f0 := X1.f0; have f1 := X1.f1; have sp := X1.sp; have sq := X1.sq
  have HX1 := Lib.hid X1; clear X1
  refine Lib.hid ?_
  go_wp2_with (go_at_call 139; refine (KA.out _).mono ?_; rintro e w3 ⟨rfl, h⟩; subst h; refine Hid.out ?_)
  refine Lib.hid ?_
  go_wp2
  obtain ⟨q0, q1, hbF⟩ := HX1.out.stored ⟨#[]⟩ ⟨#[]⟩
  refine bodyPost_ret (v := .tuple #[.agg #[.string ⟨#[]⟩, .string ⟨#[]⟩], .int .i64 3]) (by simp [results, Tryz.results103, go_sem, q0, q1]) rfl ?_
  exact ⟨rfl, hbF⟩
set_option maxHeartbeats 2000000 in
theorem parse_f0_10_false (s u v : ByteArray) (w : World)
    (C1 : ∀ W, Calls Tryz.prog 87 #[.string s, .string ⟨#[47]⟩] W fun e w' => e = .returned (.tuple #[.string u, .string v, .bool true]) ∧ Below W.heap.size W w')
    (CU : ∀ W, Calls Tryz.prog 138 #[.string u] W fun e w' => e = .returned (.int .i64 (0 : Nat)) ∧ w' = W)
    (CV : ∀ W, Calls Tryz.prog 138 #[.string v] W fun e w' => e = .returned (.int .i64 (10 : Nat)) ∧ w' = W)
    (CA : ∀ W, Calls Tryz.prog 139 #[.string v] W fun e w' => e = .returned (.bool true) ∧ w' = W)
    (CN : ∀ W, Below w.heap.size w W → Calls Tryz.prog 140 #[.string u, .string v] W (Bret (.bool false) W)) :
    Calls Tryz.prog 103 #[.string s] w (Bret (.tuple #[.agg #[.string ⟨#[]⟩, .string ⟨#[]⟩], .int .i64 3]) w) := by
  have K1 := Lib.hid C1; have KU := Lib.hid CU; have KV := Lib.hid CV; have KA := Lib.hid CA; have KN := Lib.hid CN; clear C1 CU CV CA CN
  go_enter Tryz.func103, Tryz.ntmps103
  go_wp2_with (go_at_call 87; refine (K1.out _).mono ?_; rintro e w1 ⟨rfl, hb1⟩; refine Hid.out ?_)
  have X0 := pbox_new w w1 u v 123 hb1
  clear hb1
  refine Lib.hid ?_
  go_wp2_with fail
  generalize w1.alloc (Obj.cells #[Value.string u, Value.string v] 123) = W at *
  generalize w1.heap.size = q at *
  generalize hp : w.heap.size = p at *
  have HX0 := Lib.hid X0
  have x0 := X0.x0; have x1 := X0.x1
  have HP := Lib.hid hp
  clear X0 hp
  go_quiet ((first | (go_at_call_of 138 u; exact Calls.quiet_of_same (KU.out _)) | (go_at_call 138; exact Calls.quiet_of_same (KV.out _))))
  have X1 := HX0.out.mono (below_drewN (Below.refl _ _) nq)
  clear x0 x1 HX0
  generalize World.drewN W nq = W2 at *
  have x0 := X1.x0; have x1 := X1.x1; have r0 := X1.r0; have r1 := X1.r1; have f0 := X1.f0; have f1 := X1.f1; have sp := X1.sp; have sq := X1.sq
  have HX1 := Lib.hid X1; clear X1
  refine Lib.hid ?_
  go_wp2_with (go_at_call 139; refine (KA.out _).mono ?_; rintro e w3 ⟨rfl, h⟩; subst h; refine Hid.out ?_)
  refine Lib.hid ?_
  go_wp2_with (go_at_call 140; refine (KN.out _ (HP.out ▸ HX1.out.below)).mono ?_; rintro e w4 ⟨rfl, hb4⟩; refine Hid.out ?_)
  have X2 := HX1.out.mono hb4
  clear x0 x1 r0 r1 f0 f1 sp sq HX1 hb4
  have x0 := X2.x0; have x1 := X2.x1; have r0 := X2.r0; have r1 := X2.r1; have f0 := X2.f0; have f1 := X2.f1; have sp := X2.sp; have sq := X2.sq
  have HX2 := Lib.hid X2; clear X2
  refine Lib.hid ?_
  go_wp2
  obtain ⟨q0, q1, hbF⟩ := HX2.out.stored ⟨#[]⟩ ⟨#[]⟩
  refine bodyPost_ret (v := .tuple #[.agg #[.string ⟨#[]⟩, .string ⟨#[]⟩], .int .i64 3]) (by simp [results, Tryz.results103, go_sem, q0, q1]) rfl ?_
  exact ⟨rfl, hbF⟩
set_option maxHeartbeats 2000000 in
theorem parse_f0_10_true (s u v : ByteArray) (w : World)
    (C1 : ∀ W, Calls Tryz.prog 87 #[.string s, .string ⟨#[47]⟩] W fun e w' => e = .returned (.tuple #[.string u, .string v, .bool true]) ∧ Below W.heap.size W w')
    (CU : ∀ W, Calls Tryz.prog 138 #[.string u] W fun e w' => e = .returned (.int .i64 (0 : Nat)) ∧ w' = W)
    (CV : ∀ W, Calls Tryz.prog 138 #[.string v] W fun e w' => e = .returned (.int .i64 (10 : Nat)) ∧ w' = W)
    (CA : ∀ W, Calls Tryz.prog 139 #[.string v] W fun e w' => e = .returned (.bool true) ∧ w' = W)
    (CN : ∀ W, Below w.heap.size w W → Calls Tryz.prog 140 #[.string u, .string v] W (Bret (.bool true) W)) :
    Calls Tryz.prog 103 #[.string s] w (Bret (.tuple #[.agg #[.string ⟨#[]⟩, .string ⟨#[]⟩], .int .i64 10]) w) := by
  have K1 := Lib.hid C1; have KU := Lib.hid CU; have KV := Lib.hid CV; have KA := Lib.hid CA; have KN := Lib.hid CN; clear C1 CU CV CA CN
  go_enter Tryz.func103, Tryz.ntmps103
  go_wp2_with (go_at_call 87; refine (K1.out _).mono ?_; rintro e w1 ⟨rfl, hb1⟩; refine Hid.out ?_)
  have X0 := pbox_new w w1 u v 123 hb1
  clear hb1
  refine Lib.hid ?_
  go_wp2_with fail
  generalize w1.alloc (Obj.cells #[Value.string u, Value.string v] 123) = W at *
  generalize w1.heap.size = q at *
  generalize hp : w.heap.size = p at *
  have HX0 := Lib.hid X0
  have x0 := X0.x0; have x1 := X0.x1
  have HP := Lib.hid hp
  clear X0 hp
  go_quiet ((first | (go_at_call_of 138 u; exact Calls.quiet_of_same (KU.out _)) | (go_at_call 138; exact Calls.quiet_of_same (KV.out _))))
  have X1 := HX0.out.mono (below_drewN (Below.refl _ _) nq)
  clear x0 x1 HX0
  generalize World.drewN W nq = W2 at *
  have x0 := X1.x0; have x1 := X1.x1; have r0 := X1.r0; have r1 := X1.r1; have f0 := X1.f0; have f1 := X1.f1; have sp := X1.sp; have sq := X1.sq
  have HX1 := Lib.hid X1; clear X1
  refine Lib.hid ?_
  go_wp2_with (go_at_call 139; refine (KA.out _).mono ?_; rintro e w3 ⟨rfl, h⟩; subst h; refine Hid.out ?_)
  refine Lib.hid ?_
  go_wp2_with (go_at_call 140; refine (KN.out _ (HP.out ▸ HX1.out.below)).mono ?_; rintro e w4 ⟨rfl, hb4⟩; refine Hid.out ?_)
  have X2 := HX1.out.mono hb4
  clear x0 x1 r0 r1 f0 f1 sp sq HX1 hb4
  have x0 := X2.x0; have x1 := X2.x1; have r0 := X2.r0; have r1 := X2.r1; have f0 := X2.f0; have f1 := X2.f1; have sp := X2.sp; have sq := X2.sq
  have HX2 := Lib.hid X2; clear X2
  refine Lib.hid ?_
  go_wp2
  obtain ⟨q0, q1, hbF⟩ := HX2.out.stored ⟨#[]⟩ ⟨#[]⟩
  refine bodyPost_ret (v := .tuple #[.agg #[.string ⟨#[]⟩, .string ⟨#[]⟩], .int .i64 10]) (by simp [results, Tryz.results103, go_sem, q0, q1]) rfl ?_
  exact ⟨rfl, hbF⟩
set_option maxHeartbeats 2000000 in
theorem parse_f10_0_low (s u v : ByteArray) (w : World)
    (C1 : ∀ W, Calls Tryz.prog 87 #[.string s, .string ⟨#[47]⟩] W fun e w' => e = .returned (.tuple #[.string u, .string v, .bool true]) ∧ Below W.heap.size W w')
    (CU : ∀ W, Calls Tryz.prog 138 #[.string u] W fun e w' => e = .returned (.int .i64 (10 : Nat)) ∧ w' = W)
    (CV : ∀ W, Calls Tryz.prog 138 #[.string v] W fun e w' => e = .returned (.int .i64 (0 : Nat)) ∧ w' = W)
    (CA : ∀ W, Calls Tryz.prog 139 #[.string v] W fun e w' => e = .returned (.bool false) ∧ w' = W) :
    Calls Tryz.prog 103 #[.string s] w (Bret (.tuple #[.agg #[.string ⟨#[]⟩, .string ⟨#[]⟩], .int .i64 3]) w) := by
  have K1 := Lib.hid C1; have KU := Lib.hid CU; have KV := Lib.hid CV; have KA := Lib.hid CA; clear C1 CU CV CA
  go_enter Tryz.func103, Tryz.ntmps103
  go_wp2_with (go_at_call 87; refine (K1.out _).mono ?_; rintro e w1 ⟨rfl, hb1⟩; refine Hid.out ?_)
  have X0 := pbox_new w w1 u v 123 hb1
  clear hb1
  refine Lib.hid ?_
  go_wp2_with fail
  generalize w1.alloc (Obj.cells #[Value.string u, Value.string v] 123) = W at *
  generalize w1.heap.size = q at *
  generalize hp : w.heap.size = p at *
  have HX0 := Lib.hid X0
  have x0 := X0.x0; have x1 := X0.x1
  have HP := Lib.hid hp
  clear X0 hp
  go_quiet ((first | (go_at_call_of 138 u; exact Calls.quiet_of_same (KU.out _)) | (go_at_call 138; exact Calls.quiet_of_same (KV.out _))))
  have X1 := HX0.out.mono (below_drewN (Below.refl _ _) nq)
  clear x0 x1 HX0
  generalize World.drewN W nq = W2 at *
  have x0 := X1.x0; have x1 := X1.x1; have r0 := X1.r0; have r1 := X1.r1; have f0 := X1.f0; have f1 := X1.f1; have sp := X1.sp; have sq := X1.sq
  have HX1 := Lib.hid X1; clear X1
  refine Lib.hid ?_
  go_wp2_with (go_at_call 139; refine (KA.out _).mono ?_; rintro e w3 ⟨rfl, h⟩; subst h; refine Hid.out ?_)
  refine Lib.hid ?_
  go_wp2
  obtain ⟨q0, q1, hbF⟩ := HX1.out.stored ⟨#[]⟩ ⟨#[]⟩
  refine bodyPost_ret (v := .tuple #[.agg #[.string ⟨#[]⟩, .string ⟨#[]⟩], .int .i64 3]) (by simp [results, Tryz.results103, go_sem, q0, q1]) rfl ?_
  exact ⟨rfl, hbF⟩
set_option maxHeartbeats 2000000 in
theorem parse_f10_0_false (s u v : ByteArray) (w : World)
    (C1 : ∀ W, Calls Tryz.prog 87 #[.string s, .string ⟨#[47]⟩] W fun e w' => e = .returned (.tuple #[.string u, .string v, .bool true]) ∧ Below W.heap.size W w')
    (CU : ∀ W, Calls Tryz.prog 138 #[.string u] W fun e w' => e = .returned (.int .i64 (10 : Nat)) ∧ w' = W)
    (CV : ∀ W, Calls Tryz.prog 138 #[.string v] W fun e w' => e = .returned (.int .i64 (0 : Nat)) ∧ w' = W)
    (CA : ∀ W, Calls Tryz.prog 139 #[.string v] W fun e w' => e = .returned (.bool true) ∧ w' = W)
    (CN : ∀ W, Below w.heap.size w W → Calls Tryz.prog 140 #[.string u, .string v] W (Bret (.bool false) W)) :
    Calls Tryz.prog 103 #[.string s] w (Bret (.tuple #[.agg #[.string ⟨#[]⟩, .string ⟨#[]⟩], .int .i64 3]) w) := by
  have K1 := Lib.hid C1; have KU := Lib.hid CU; have KV := Lib.hid CV; have KA := Lib.hid CA; have KN := Lib.hid CN; clear C1 CU CV CA CN
  go_enter Tryz.func103, Tryz.ntmps103
  go_wp2_with (go_at_call 87; refine (K1.out _).mono ?_; rintro e w1 ⟨rfl, hb1⟩; refine Hid.out ?_)
  have X0 := pbox_new w w1 u v 123 hb1
  clear hb1
  refine Lib.hid ?_
  go_wp2_with fail
  generalize w1.alloc (Obj.cells #[Value.string u, Value.string v] 123) = W at *
  generalize w1.heap.size = q at *
  generalize hp : w.heap.size = p at *
  have HX0 := Lib.hid X0
  have x0 := X0.x0; have x1 := X0.x1
  have HP := Lib.hid hp
  clear X0 hp
  go_quiet ((first | (go_at_call_of 138 u; exact Calls.quiet_of_same (KU.out _)) | (go_at_call 138; exact Calls.quiet_of_same (KV.out _))))
  have X1 := HX0.out.mono (below_drewN (Below.refl _ _) nq)
  clear x0 x1 HX0
  generalize World.drewN W nq = W2 at *
  have x0 := X1.x0; have x1 := X1.x1; have r0 := X1.r0; have r1 := X1.r1; have f0 := X1.f0; have f1 := X1.f1; have sp := X1.sp; have sq := X1.sq
  have HX1 := Lib.hid X1; clear X1
  refine Lib.hid ?_
  go_wp2_with (go_at_call 139; refine (KA.out _).mono ?_; rintro e w3 ⟨rfl, h⟩; subst h; refine Hid.out ?_)
  refine Lib.hid ?_
  go_wp2_with (go_at_call 140; refine (KN.out _ (HP.out ▸ HX1.out.below)).mono ?_; rintro e w4 ⟨rfl, hb4⟩; refine Hid.out ?_)
  have X2 := HX1.out.mono hb4
  clear x0 x1 r0 r1 f0 f1 sp sq HX1 hb4
  have x0 := X2.x0; have x1 := X2.x1; have r0 := X2.r0; have r1 := X2.r1; have f0 := X2.f0; have f1 := X2.f1; have sp := X2.sp; have sq := X2.sq
  have HX2 := Lib.hid X2; clear X2
  refine Lib.hid ?_
  go_wp2
  obtain ⟨q0, q1, hbF⟩ := HX2.out.stored ⟨#[]⟩ ⟨#[]⟩
  refine bodyPost_ret (v := .tuple #[.agg #[.string ⟨#[]⟩, .string ⟨#[]⟩], .int .i64 3]) (by simp [results, Tryz.results103, go_sem, q0, q1]) rfl ?_
  exact ⟨rfl, hbF⟩
set_option maxHeartbeats 2000000 in
theorem parse_f10_0_true (s u v : ByteArray) (w : World)
    (C1 : ∀ W, Calls Tryz.prog 87 #[.string s, .string ⟨#[47]⟩] W fun e w' => e = .returned (.tuple #[.string u, .string v, .bool true]) ∧ Below W.heap.size W w')
    (CU : ∀ W, Calls Tryz.prog 138 #[.string u] W fun e w' => e = .returned (.int .i64 (10 : Nat)) ∧ w' = W)
    (CV : ∀ W, Calls Tryz.prog 138 #[.string v] W fun e w' => e = .returned (.int .i64 (0 : Nat)) ∧ w' = W)
    (CA : ∀ W, Calls Tryz.prog 139 #[.string v] W fun e w' => e = .returned (.bool true) ∧ w' = W)
    (CN : ∀ W, Below w.heap.size w W → Calls Tryz.prog 140 #[.string u, .string v] W (Bret (.bool true) W)) :
    Calls Tryz.prog 103 #[.string s] w (Bret (.tuple #[.agg #[.string ⟨#[]⟩, .string ⟨#[]⟩], .int .i64 10]) w) := by
  have K1 := Lib.hid C1; have KU := Lib.hid CU; have KV := Lib.hid CV; have KA := Lib.hid CA; have KN := Lib.hid CN; clear C1 CU CV CA CN
  go_enter Tryz.func103, Tryz.ntmps103
  go_wp2_with (go_at_call 87; refine (K1.out _).mono ?_; rintro e w1 ⟨rfl, hb1⟩; refine Hid.out ?_)
  have X0 := pbox_new w w1 u v 123 hb1
  clear hb1
  refine Lib.hid ?_
  go_wp2_with fail
  generalize w1.alloc (Obj.cells #[Value.string u, Value.string v] 123) = W at *
  generalize w1.heap.size = q at *
  generalize hp : w.heap.size = p at *
  have HX0 := Lib.hid X0
  have x0 := X0.x0; have x1 := X0.x1
  have HP := Lib.hid hp
  clear X0 hp
  go_quiet ((first | (go_at_call_of 138 u; exact Calls.quiet_of_same (KU.out _)) | (go_at_call 138; exact Calls.quiet_of_same (KV.out _))))
  have X1 := HX0.out.mono (below_drewN (Below.refl _ _) nq)
  clear x0 x1 HX0
  generalize World.drewN W nq = W2 at *
  have x0 := X1.x0; have x1 := X1.x1; have r0 := X1.r0; have r1 := X1.r1; have f0 := X1.f0; have f1 := X1.f1; have sp := X1.sp; have sq := X1.sq
  have HX1 := Lib.hid X1; clear X1
  refine Lib.hid ?_
  go_wp2_with (go_at_call 139; refine (KA.out _).mono ?_; rintro e w3 ⟨rfl, h⟩; subst h; refine Hid.out ?_)
  refine Lib.hid ?_
  go_wp2_with (go_at_call 140; refine (KN.out _ (HP.out ▸ HX1.out.below)).mono ?_; rintro e w4 ⟨rfl, hb4⟩; refine Hid.out ?_)
  have X2 := HX1.out.mono hb4
  clear x0 x1 r0 r1 f0 f1 sp sq HX1 hb4
  have x0 := X2.x0; have x1 := X2.x1; have r0 := X2.r0; have r1 := X2.r1; have f0 := X2.f0; have f1 := X2.f1; have sp := X2.sp; have sq := X2.sq
  have HX2 := Lib.hid X2; clear X2
  refine Lib.hid ?_
  go_wp2
  obtain ⟨q0, q1, hbF⟩ := HX2.out.stored ⟨#[]⟩ ⟨#[]⟩
  refine bodyPost_ret (v := .tuple #[.agg #[.string ⟨#[]⟩, .string ⟨#[]⟩], .int .i64 10]) (by simp [results, Tryz.results103, go_sem, q0, q1]) rfl ?_
  exact ⟨rfl, hbF⟩
set_option maxHeartbeats 2000000 in
theorem parse_f10_10_low (s u v : ByteArray) (w : World)
    (C1 : ∀ W, Calls Tryz.prog 87 #[.string s, .string ⟨#[47]⟩] W fun e w' => e = .returned (.tuple #[.string u, .string v, .bool true]) ∧ Below W.heap.size W w')
    (CU : ∀ W, Calls Tryz.prog 138 #[.string u] W fun e w' => e = .returned (.int .i64 (10 : Nat)) ∧ w' = W)
    (CV : ∀ W, Calls Tryz.prog 138 #[.string v] W fun e w' => e = .returned (.int .i64 (10 : Nat)) ∧ w' = W)
    (CA : ∀ W, Calls Tryz.prog 139 #[.string v] W fun e w' => e = .returned (.bool false) ∧ w' = W) :
    Calls Tryz.prog 103 #[.string s] w (Bret (.tuple #[.agg #[.string ⟨#[]⟩, .string ⟨#[]⟩], .int .i64 3]) w) := by
  have K1 := Lib.hid C1; have KU := Lib.hid CU; have KV := Lib.hid CV; have KA := Lib.hid CA; clear C1 CU CV CA
  go_enter Tryz.func103, Tryz.ntmps103
  go_wp2_with (go_at_call 87; refine (K1.out _).mono ?_; rintro e w1 ⟨rfl, hb1⟩; refine Hid.out ?_)
  have X0 := pbox_new w w1 u v 123 hb1
  clear hb1
  refine Lib.hid ?_
  go_wp2_with fail
  generalize w1.alloc (Obj.cells #[Value.string u, Value.string v] 123) = W at *
  generalize w1.heap.size = q at *
  generalize hp : w.heap.size = p at *
  have HX0 := Lib.hid X0
  have x0 := X0.x0; have x1 := X0.x1
  have HP := Lib.hid hp
  clear X0 hp
  go_quiet ((first | (go_at_call_of 138 u; exact Calls.quiet_of_same (KU.out _)) | (go_at_call 138; exact Calls.quiet_of_same (KV.out _))))
  have X1 := HX0.out.mono (below_drewN (Below.refl _ _) nq)
  clear x0 x1 HX0
  generalize World.drewN W nq = W2 at *
  have x0 := X1.x0; have x1 := X1.x1; have r0 := X1.r0; have r1 := X1.r1; have f0 := X1.f0; have f1 := X1.f1; have sp := X1.sp; have sq := X1.sq
  have HX1 := Lib.hid X1; clear X1
  refine Lib.hid ?_
  go_wp2_with (go_at_call 139; refine (KA.out _).mono ?_; rintro e w3 ⟨rfl, h⟩; subst h; refine Hid.out ?_)
  refine Lib.hid ?_
  go_wp2
  obtain ⟨q0, q1, hbF⟩ := HX1.out.stored ⟨#[]⟩ ⟨#[]⟩
  refine bodyPost_ret (v := .tuple #[.agg #[.string ⟨#[]⟩, .string ⟨#[]⟩], .int .i64 3]) (by simp [results, Tryz.results103, go_sem, q0, q1]) rfl ?_
  exact ⟨rfl, hbF⟩
set_option maxHeartbeats 2000000 in
theorem parse_f10_10_false (s u v : ByteArray) (w : World)
    (C1 : ∀ W, Calls Tryz.prog 87 #[.string s, .string ⟨#[47]⟩] W fun e w' => e = .returned (.tuple #[.string u, .string v, .bool true]) ∧ Below W.heap.size W w')
    (CU : ∀ W, Calls Tryz.prog 138 #[.string u] W fun e w' => e = .returned (.int .i64 (10 : Nat)) ∧ w' = W)
    (CV : ∀ W, Calls Tryz.prog 138 #[.string v] W fun e w' => e = .returned (.int .i64 (10 : Nat)) ∧ w' = W)
    (CA : ∀ W, Calls Tryz.prog 139 #[.string v] W fun e w' => e = .returned (.bool true) ∧ w' = W)
    (CN : ∀ W, Below w.heap.size w W → Calls Tryz.prog 140 #[.string u, .string v] W (Bret (.bool false) W)) :
    Calls Tryz.prog 103 #[.string s] w (Bret (.tuple #[.agg #[.string ⟨#[]⟩, .string ⟨#[]⟩], .int .i64 3]) w) := by
  have K1 := Lib.hid C1; have KU := Lib.hid CU; have KV := Lib.hid CV; have KA := Lib.hid CA; have KN := Lib.hid CN; clear C1 CU CV CA CN
  go_enter Tryz.func103, Tryz.ntmps103
  go_wp2_with (go_at_call 87; refine (K1.out _).mono ?_; rintro e w1 ⟨rfl, hb1⟩; refine Hid.out ?_)
  have X0 := pbox_new w w1 u v 123 hb1
  clear hb1
  refine Lib.hid ?_
  go_wp2_with fail
  generalize w1.alloc (Obj.cells #[Value.string u, Value.string v] 123) = W at *
  generalize w1.heap.size = q at *
  generalize hp : w.heap.size = p at *
  have HX0 := Lib.hid X0
  have x0 := X0.x0; have x1 := X0.x1
  have HP := Lib.hid hp
  clear X0 hp
  go_quiet ((first | (go_at_call_of 138 u; exact Calls.quiet_of_same (KU.out _)) | (go_at_call 138; exact Calls.quiet_of_same (KV.out _))))
  have X1 := HX0.out.mono (below_drewN (Below.refl _ _) nq)
  clear x0 x1 HX0
  generalize World.drewN W nq = W2 at *
  have x0 := X1.x0; have x1 := X1.x1; have r0 := X1.r0; have r1 := X1.r1; have f0 := X1.f0; have f1 := X1.f1; have sp := X1.sp; have sq := X1.sq
  have HX1 := Lib.hid X1; clear X1
  refine Lib.hid ?_
  go_wp2_with (go_at_call 139; refine (KA.out _).mono ?_; rintro e w3 ⟨rfl, h⟩; subst h; refine Hid.out ?_)
  refine Lib.hid ?_
  go_wp2_with (go_at_call 140; refine (KN.out _ (HP.out ▸ HX1.out.below)).mono ?_; rintro e w4 ⟨rfl, hb4⟩; refine Hid.out ?_)
  have X2 := HX1.out.mono hb4
  clear x0 x1 r0 r1 f0 f1 sp sq HX1 hb4
  have x0 := X2.x0; have x1 := X2.x1; have r0 := X2.r0; have r1 := X2.r1; have f0 := X2.f0; have f1 := X2.f1; have sp := X2.sp; have sq := X2.sq
  have HX2 := Lib.hid X2; clear X2
  refine Lib.hid ?_
  go_wp2
  obtain ⟨q0, q1, hbF⟩ := HX2.out.stored ⟨#[]⟩ ⟨#[]⟩
  refine bodyPost_ret (v := .tuple #[.agg #[.string ⟨#[]⟩, .string ⟨#[]⟩], .int .i64 3]) (by simp [results, Tryz.results103, go_sem, q0, q1]) rfl ?_
  exact ⟨rfl, hbF⟩
set_option maxHeartbeats 2000000 in
theorem parse_f10_10_true (s u v : ByteArray) (w : World)
    (C1 : ∀ W, Calls Tryz.prog 87 #[.string s, .string ⟨#[47]⟩] W fun e w' => e = .returned (.tuple #[.string u, .string v, .bool true]) ∧ Below W.heap.size W w')
    (CU : ∀ W, Calls Tryz.prog 138 #[.string u] W fun e w' => e = .returned (.int .i64 (10 : Nat)) ∧ w' = W)
    (CV : ∀ W, Calls Tryz.prog 138 #[.string v] W fun e w' => e = .returned (.int .i64 (10 : Nat)) ∧ w' = W)
    (CA : ∀ W, Calls Tryz.prog 139 #[.string v] W fun e w' => e = .returned (.bool true) ∧ w' = W)
    (CN : ∀ W, Below w.heap.size w W → Calls Tryz.prog 140 #[.string u, .string v] W (Bret (.bool true) W)) :
    Calls Tryz.prog 103 #[.string s] w (Bret (.tuple #[.agg #[.string ⟨#[]⟩, .string ⟨#[]⟩], .int .i64 10]) w) := by
  have K1 := Lib.hid C1; have KU := Lib.hid CU; have KV := Lib.hid CV; have KA := Lib.hid CA; have KN := Lib.hid CN; clear C1 CU CV CA CN
  go_enter Tryz.func103, Tryz.ntmps103
  go_wp2_with (go_at_call 87; refine (K1.out _).mono ?_; rintro e w1 ⟨rfl, hb1⟩; refine Hid.out ?_)
  have X0 := pbox_new w w1 u v 123 hb1
  clear hb1
  refine Lib.hid ?_
  go_wp2_with fail
  generalize w1.alloc (Obj.cells #[Value.string u, Value.string v] 123) = W at *
  generalize w1.heap.size = q at *
  generalize hp : w.heap.size = p at *
  have HX0 := Lib.hid X0
  have x0 := X0.x0; have x1 := X0.x1
  have HP := Lib.hid hp
  clear X0 hp
  go_quiet ((first | (go_at_call_of 138 u; exact Calls.quiet_of_same (KU.out _)) | (go_at_call 138; exact Calls.quiet_of_same (KV.out _))))
  have X1 := HX0.out.mono (below_drewN (Below.refl _ _) nq)
  clear x0 x1 HX0
  generalize World.drewN W nq = W2 at *
  have x0 := X1.x0; have x1 := X1.x1; have r0 := X1.r0; have r1 := X1.r1; have f0 := X1.f0; have f1 := X1.f1; have sp := X1.sp; have sq := X1.sq
  have HX1 := Lib.hid X1; clear X1
  refine Lib.hid ?_
  go_wp2_with (go_at_call 139; refine (KA.out _).mono ?_; rintro e w3 ⟨rfl, h⟩; subst h; refine Hid.out ?_)
  refine Lib.hid ?_
  go_wp2_with (go_at_call 140; refine (KN.out _ (HP.out ▸ HX1.out.below)).mono ?_; rintro e w4 ⟨rfl, hb4⟩; refine Hid.out ?_)
  have X2 := HX1.out.mono hb4
  clear x0 x1 r0 r1 f0 f1 sp sq HX1 hb4
  have x0 := X2.x0; have x1 := X2.x1; have r0 := X2.r0; have r1 := X2.r1; have f0 := X2.f0; have f1 := X2.f1; have sp := X2.sp; have sq := X2.sq
  have HX2 := Lib.hid X2; clear X2
  refine Lib.hid ?_
  go_wp2
  obtain ⟨q0, q1, hbF⟩ := HX2.out.stored ⟨#[]⟩ ⟨#[]⟩
  refine bodyPost_ret (v := .tuple #[.agg #[.string ⟨#[]⟩, .string ⟨#[]⟩], .int .i64 10]) (by simp [results, Tryz.results103, go_sem, q0, q1]) rfl ?_
  exact ⟨rfl, hbF⟩
theorem canon_of_ne3 {l : List UInt8} (h : errOf l ≠ 3) : canonB l = true := by
  unfold errOf at h
  split at h
  · assumption
  · exact absurd rfl h
theorem errOf_ne3 {l : List UInt8} (h : canonB l = true) : errOf l ≠ 3 := by
  unfold errOf; rw [if_pos h]; split <;> omega
theorem errOf_3 {l : List UInt8} (h : errOf l = 3) : canonB l = false := by
  cases hc : canonB l
  · rfl
  · exact absurd h (errOf_ne3 hc)
theorem parseR_err {l : List UInt8} {e : Nat} (h : rerr l = e) (he : e ≠ 0) : parseR l = .tuple #[.agg #[.string ⟨#[]⟩, .string ⟨#[]⟩], .int .i64 (e : Nat)] := by unfold parseR; rw [h, if_neg he]; rfl
theorem rerr_form {l : List UInt8} (h : ratOk l = false) : rerr l = 3 := by unfold rerr; rw [h]; rfl
theorem errOf_one : errOf [49] = 0 := by decide
set_option maxHeartbeats 2000000 in
theorem parse_rat (s : ByteArray) (w : World) (hs : s.size ≤ 1000000000) (htab : Lib.TabIs Tryz.prog w "internal/strconv.uint64pow10" .u64 Lib.pow10Tab) :
    Calls Tryz.prog 103 #[.string s] w (Bret (parseR (bytes s)) w) := by
  have hT := Lib.tabBelow_of_tabIs htab
  have C1 := fun W => cut_slash s W (by omega)
  unfold cutV at C1
  have hsz : (bytes s).length = s.size := rfl
  rcases slash_cases (bytes s) with ⟨hB, ht, hb⟩ | ⟨hB, hl⟩
  · rw [hB, if_neg (by simp), ← ht] at C1
    have CU := fun W => check_any (str (topL (bytes s))) W (by rw [str_size, ht]; omega)
    have CV := fun W => check_any ⟨#[49]⟩ W (by decide)
    rw [bytes_str] at CU
    rw [show errOf (bytes ⟨#[49]⟩) = 0 from by decide] at CV
    have hbe : errOf (botL (bytes s)) = 0 := by rw [hb]; exact errOf_one
    have hok : ratOk (bytes s) = canonB (topL (bytes s)) := by unfold ratOk; rw [hB, hb]; simp; intro _; decide
    rcases errOf_cases (topL (bytes s)) with h | h | h
    · have he : rerr (bytes s) = 0 := by unfold rerr; rw [hok, canon_of_ne3 (by omega), if_pos rfl, h, hbe, if_pos ⟨rfl, rfl⟩]
      have e : parseR (bytes s) = .tuple #[.agg #[.string (str (topL (bytes s))), .string ⟨#[49]⟩], .int .i64 0] := by unfold parseR; rw [he, if_pos rfl, hb]; rfl
      rw [e]
      rw [h] at CU
      exact parse_n0 s _ w C1 CU CV
    · have he : rerr (bytes s) = 3 := rerr_form (by rw [hok]; exact errOf_3 h)
      rw [parseR_err he (by decide)]
      rw [h] at CU
      exact parse_n3 s _ w C1 CU CV
    · have he : rerr (bytes s) = 10 := by unfold rerr; rw [hok, canon_of_ne3 (by omega), if_pos rfl, if_neg (by omega)]
      rw [parseR_err he (by decide)]
      rw [h] at CU
      exact parse_n10 s _ w C1 CU CV
  · rw [hB, if_pos rfl] at C1
    have hlen : (topL (bytes s)).length + (botL (bytes s)).length < s.size := by
      have := congrArg List.length hl
      rw [List.length_append, List.length_cons, hsz] at this
      omega
    have CU := fun W => check_any (str (topL (bytes s))) W (by rw [str_size]; omega)
    have CV := fun W => check_any (str (botL (bytes s))) W (by rw [str_size]; omega)
    rw [bytes_str] at CU CV
    by_cases h1 : errOf (topL (bytes s)) = 3
    · have he : rerr (bytes s) = 3 := rerr_form (by unfold ratOk; rw [errOf_3 h1]; rfl)
      rw [parseR_err he (by decide)]
      rw [h1] at CU
      exact parse_f3 s _ _ w _ C1 CU CV
    · by_cases h2 : errOf (botL (bytes s)) = 3
      · have he : rerr (bytes s) = 3 := rerr_form (by unfold ratOk; rw [errOf_3 h2]; simp)
        rw [parseR_err he (by decide)]
        rw [h2] at CV
        rcases errOf_cases (topL (bytes s)) with h | h | h
        · rw [h] at CU; exact parse_f0_3 s _ _ w C1 CU CV
        · exact absurd h h1
        · rw [h] at CU; exact parse_f10_3 s _ _ w C1 CU CV
      · have k1 := canon_of_ne3 h1; have k2 := canon_of_ne3 h2
        have t1 : bytes (str (topL (bytes s))) = Lib.itoa (valZ (topL (bytes s))) := by rw [bytes_str]; exact itoa_valZ k1
        have t2 : bytes (str (botL (bytes s))) = Lib.itoa (valZ (botL (bytes s))) := by rw [bytes_str]; exact itoa_valZ k2
        have CA := fun W => isAboveOne_any (str (botL (bytes s))) _ W t2
        have CN : ∀ W, Below w.heap.size w W → _ := fun W hW => haveNoDivisor_any (str (topL (bytes s))) (str (botL (bytes s))) _ _ W t1 t2 (by rw [str_size]; omega) (by rw [str_size]; omega) (hT.on hW).here
        have hok : ratOk (bytes s) = (decide (1 < valZ (botL (bytes s))) && decide (gcdI (valZ (topL (bytes s))) (valZ (botL (bytes s))) = 1)) := by
          unfold ratOk; rw [k1, k2, hB]
          have : decide (Int.gcd (valZ (topL (bytes s))) (valZ (botL (bytes s))) = 1) = decide (gcdI (valZ (topL (bytes s))) (valZ (botL (bytes s))) = 1) := by unfold gcdI; rw [decide_eq_decide]; omega
          rw [this]; rfl
        have hE : rerr (bytes s) = if ratOk (bytes s) = true then (if errOf (topL (bytes s)) = 0 ∧ errOf (botL (bytes s)) = 0 then 0 else 10) else 3 := rfl
        have hR : rerr (bytes s) = 0 → parseR (bytes s) = .tuple #[.agg #[.string (str (topL (bytes s))), .string (str (botL (bytes s)))], .int .i64 0] := fun h => by unfold parseR; rw [if_pos h]; rfl
        rw [hok] at hE
        have j1 : errOf (topL (bytes s)) = 0 ∨ errOf (topL (bytes s)) = 10 := by rcases errOf_cases (topL (bytes s)) with h | h | h <;> omega
        have j2 : errOf (botL (bytes s)) = 0 ∨ errOf (botL (bytes s)) = 10 := by rcases errOf_cases (botL (bytes s)) with h | h | h <;> omega
        generalize decide (1 < valZ (botL (bytes s))) = c1 at *
        generalize decide (gcdI (valZ (topL (bytes s))) (valZ (botL (bytes s))) = 1) = c2 at *
        have hP := fun (e : Nat) (h : rerr (bytes s) = e) (he : e ≠ 0) => parseR_err (l := bytes s) h he
        generalize parseR (bytes s) = R at *
        generalize str (topL (bytes s)) = u at *
        generalize str (botL (bytes s)) = v at *
        generalize rerr (bytes s) = er at *
        generalize errOf (topL (bytes s)) = e1 at *
        generalize errOf (botL (bytes s)) = e2 at *
        clear hok h1 h2
        rcases j1 with rfl | rfl <;> rcases j2 with rfl | rfl <;> cases c1
        · rw [hP 3 (by simpa using hE) (by decide)]; exact parse_f0_0_low s u v w C1 CU CV CA
        · cases c2
          · rw [hP 3 (by simpa using hE) (by decide)]; exact parse_f0_0_false s u v w C1 CU CV CA CN
          · rw [hR (by simpa using hE)]; exact parse_f0_0_true s u v w C1 CU CV CA CN
        · rw [hP 3 (by simpa using hE) (by decide)]; exact parse_f0_10_low s u v w C1 CU CV CA
        · cases c2
          · rw [hP 3 (by simpa using hE) (by decide)]; exact parse_f0_10_false s u v w C1 CU CV CA CN
          · rw [hP 10 (by simpa using hE) (by decide)]; exact parse_f0_10_true s u v w C1 CU CV CA CN
        · rw [hP 3 (by simpa using hE) (by decide)]; exact parse_f10_0_low s u v w C1 CU CV CA
        · cases c2
          · rw [hP 3 (by simpa using hE) (by decide)]; exact parse_f10_0_false s u v w C1 CU CV CA CN
          · rw [hP 10 (by simpa using hE) (by decide)]; exact parse_f10_0_true s u v w C1 CU CV CA CN
        · rw [hP 3 (by simpa using hE) (by decide)]; exact parse_f10_10_low s u v w C1 CU CV CA
        · cases c2
          · rw [hP 3 (by simpa using hE) (by decide)]; exact parse_f10_10_false s u v w C1 CU CV CA CN
          · rw [hP 10 (by simpa using hE) (by decide)]; exact parse_f10_10_true s u v w C1 CU CV CA CN
end Go.Proofs.YtjobmkdaaionlaaGreatDoor
