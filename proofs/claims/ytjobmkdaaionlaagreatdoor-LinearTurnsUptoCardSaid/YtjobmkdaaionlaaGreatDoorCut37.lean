import Derived.Deep.RegionHeld3
import Derived.Test.YtjobmkdaaionlaaGreatDoorCut36
import Derived.Test.YtjobmkdaaionlaaGreatDoorCut35

set_option linter.unusedVariables false
/-
  linear: awake, the chapter's examples.
-/
set_option linter.unusedSimpArgs false
namespace Go.Proofs.YtjobmkdaaionlaaGreatDoor
open Go Go.Proofs Go.RowKit
structure AwB (w W : World) (p1 p2 b1 b2 : Nat) : Prop where
  x : Bx2 W p1 (.slice (some ⟨b1, 0, none⟩) 2 2) (.string ⟨#[52]⟩)
  y : Bx2 W p2 (.slice (some ⟨b2, 0, none⟩) 2 2) (.string ⟨#[49, 47, 51]⟩)
  l : SRow W (some ⟨b1, 0, none⟩) 2 [e12, eM3]
  m : SRow W (some ⟨b2, 0, none⟩) 2 [e1, e0]
  b : Below w.heap.size w W
theorem AwB.mono {w W W' : World} {p1 p2 b1 b2 : Nat} (h : AwB w W p1 p2 b1 b2) (g : Below W.heap.size W W') : AwB w W' p1 p2 b1 b2 :=
  ⟨h.x.mono g, h.y.mono g, h.l.mono g, h.m.mono g, Below.chain h.b g⟩
theorem aw_linea (ao : Option Addr) (n c : Nat) (W : World) : Calls Tryz.prog 43 #[.string ⟨#[49, 51, 47, 51]⟩, .slice ao n c] W (Bret (.agg #[.slice ao n c, .string ⟨#[49, 51, 47, 51]⟩]) W) := line_any _ ao n c W
theorem aw_lineb (ao : Option Addr) (n c : Nat) (W : World) : Calls Tryz.prog 43 #[.string ⟨#[51]⟩, .slice ao n c] W (Bret (.agg #[.slice ao n c, .string ⟨#[51]⟩]) W) := line_any _ ao n c W
theorem aw_linec (ao : Option Addr) (n c : Nat) (W : World) : Calls Tryz.prog 43 #[.string ⟨#[52]⟩, .slice ao n c] W (Bret (.agg #[.slice ao n c, .string ⟨#[52]⟩]) W) := line_any _ ao n c W
theorem row2_drew (w : World) (s t : ByteArray) (T : TypeId) : SRow (w.alloc (Obj.cells #[.string s, .string t] T)).drew (some ⟨w.heap.size, 0, none⟩) 2 [s, t] := row2_new w s t T
theorem srowB {w w' : World} {ao : Option Addr} {c : Nat} {l : List ByteArray} (hb : Below w.heap.size w w') (h : SRow w ao c l) : SRow w' ao c l := h.mono hb
theorem aw_same2 (s t k : ByteArray) (ao bo : Option Addr) (c d : Nat) (W : World) (ha : SRow W ao c [s, t]) (hb : SRow W bo d [s, t]) :
    Calls Tryz.prog 18 #[.agg #[.slice ao 2 c, .string k], .agg #[.slice bo 2 d, .string k]] W (Bret (.bool true) W) := sameLin [s, t] k ao bo c d W ha hb (by simp)
theorem aw_same1 (s k : ByteArray) (ao bo : Option Addr) (c d : Nat) (W : World) (ha : SRow W ao c [s]) (hb : SRow W bo d [s]) :
    Calls Tryz.prog 18 #[.agg #[.slice ao 1 c, .string k], .agg #[.slice bo 1 d, .string k]] W (Bret (.bool true) W) := sameLin [s] k ao bo c d W ha hb (by simp)
theorem aw_ints2 (s t : ByteArray) (ao bo : Option Addr) (c d : Nat) (W : World) (ha : SRow W ao c [s, t]) (hb : SRow W bo d [s, t]) :
    Calls Tryz.prog 28 #[.slice ao 2 c, .slice bo 2 d] W (Bret (.bool true) W) := sameInts [s, t] ao bo c d W ha hb (by simp)
set_option maxRecDepth 100000 in
set_option maxHeartbeats 8000000 in
theorem awake03 (w : World) (htab : Lib.TabIs Tryz.prog w "internal/strconv.uint64pow10" .u64 Lib.pow10Tab) :
    Calls Tryz.prog 13 #[] w (Bret (.bool true) w) := by
  have hT := Lib.tabBelow_of_tabIs htab
  have HT := Lib.hid hT; clear hT htab
  have A1 := nb (Below.refl w.heap.size w) (Obj.cells #[.string ⟨#[49, 47, 50]⟩, .string ⟨#[45, 51]⟩] 22)
  have r1 : SRow (w.alloc (Obj.cells #[.string ⟨#[49, 47, 50]⟩, .string ⟨#[45, 51]⟩] 22)) (some ⟨w.heap.size, 0, none⟩) 2 [e12, eM3] := row2_new w _ _ _
  go_enter Tryz.func13, Tryz.ntmps13
  go_wp2_with (go_at_call 43; refine (line_any _ _ _ _ _).mono ?_; rintro e w1 ⟨rfl, hb1⟩; refine Hid.out ?_)
  have B1 := Below.chain A1 hb1
  have r1' := r1.mono hb1
  have A2 := nb (Below.refl w1.heap.size w1) (Obj.cells #[.string ⟨#[49]⟩, .string ⟨#[48]⟩] 22)
  have r2 : SRow (w1.alloc (Obj.cells #[.string ⟨#[49]⟩, .string ⟨#[48]⟩] 22)) (some ⟨w1.heap.size, 0, none⟩) 2 [e1, e0] := row2_new w1 _ _ _
  clear r1 A1 hb1
  refine Lib.hid ?_
  go_wp2_with (go_at_call 43; refine (line_any _ _ _ _ _).mono ?_; rintro e w2 ⟨rfl, hb2⟩; refine Hid.out ?_)
  have A3 := Below.chain A2 hb2
  have B2 := Below.chain B1 A3
  have q1 := r1'.mono A3; have q2 := r2.mono hb2
  clear r1' r2 A2 A3 hb2 B1
  --GEN
  refine Lib.hid ?_
  go_wp2_with fail
  obtain ⟨Xa, Ya, Ba⟩ := entry2 w2 (.slice (some ⟨w.heap.size, 0, none⟩) 2 2) (.string ⟨#[52]⟩) (.slice (some ⟨w1.heap.size, 0, none⟩) 2 2) (.string ⟨#[49, 47, 51]⟩) 27
  have V0 : AwB w ((w2.alloc (Obj.cells #[.slice (some ⟨w.heap.size, 0, none⟩) 2 2, .string ⟨#[52]⟩] 27)).alloc (Obj.cells #[.slice (some ⟨w1.heap.size, 0, none⟩) 2 2, .string ⟨#[49, 47, 51]⟩] 27)) w2.heap.size (w2.heap.size + 1) w.heap.size w1.heap.size := ⟨Xa, Ya, q1.mono Ba, q2.mono Ba, Below.chain B2 Ba⟩
  clear Xa Ya Ba q1 q2 B2
  generalize ((w2.alloc (Obj.cells #[.slice (some ⟨w.heap.size, 0, none⟩) 2 2, .string ⟨#[52]⟩] 27)).alloc (Obj.cells #[.slice (some ⟨w1.heap.size, 0, none⟩) 2 2, .string ⟨#[49, 47, 51]⟩] 27)) = W0 at *
  generalize hp1 : w2.heap.size = p1 at *
  clear hp1
  go_wp2_with (go_at_call 20; refine (aw_add _ _ _ V0.l V0.m (HT.out.on V0.b).here).mono ?_; rintro e w4 ⟨a3, c3, rfl, r3, hb⟩; refine Hid.out ?_)
  have V_1 := V0.mono hb
  clear V0
  clear hb
  have x0 := V_1.x.c0; have x1 := V_1.x.c1; have xl := V_1.x.lt; have y0 := V_1.y.c0; have y1 := V_1.y.c1; have yl := V_1.y.lt
  refine Lib.hid ?_
  have X3 : Bx2 (w4.alloc (Obj.cells #[.slice a3 2 c3, .string ⟨#[49, 51, 47, 51]⟩] 27)) w4.heap.size (.slice a3 2 c3) (.string ⟨#[49, 51, 47, 51]⟩) := Bx2.new w4 _ _ _
  have X3a := X3.mono (nb (Below.refl _ _) (Obj.cells #[.string ⟨#[50]⟩, .string ⟨#[49, 47, 51]⟩] 22)); clear X3
  have s5 : SRow ((w4.alloc (Obj.cells #[.slice a3 2 c3, .string ⟨#[49, 51, 47, 51]⟩] 27)).alloc (Obj.cells #[.string ⟨#[50]⟩, .string ⟨#[49, 47, 51]⟩] 22)) (some ⟨w4.heap.size + 1, 0, none⟩) 2 [e2, e13] := by have := row2_new (w4.alloc (Obj.cells #[.slice a3 2 c3, .string ⟨#[49, 51, 47, 51]⟩] 27)) ⟨#[50]⟩ ⟨#[49, 47, 51]⟩ 22; rw [World.size_alloc] at this; exact this
  have A := nb (nb (Below.refl w4.heap.size w4) (Obj.cells #[.slice a3 2 c3, .string ⟨#[49, 51, 47, 51]⟩] 27)) (Obj.cells #[.string ⟨#[50]⟩, .string ⟨#[49, 47, 51]⟩] 22)
  have V_2 := V_1.mono A
  have r3_2 := r3.mono A
  clear V_1 r3
  clear A
  go_wp2_with (go_at_call 32; refine (aw_eval _ _ _ V_2.l s5 (HT.out.on V_2.b).here).mono ?_; rintro e w5 ⟨rfl, hb⟩; refine Hid.out ?_)
  clear x0 x1 xl y0 y1 yl s5
  generalize hp3 : w4.heap.size = p3 at *
  clear hp3
  have V_3 := V_2.mono hb
  have r3_3 := r3_2.mono hb
  have X3_3 := X3a.mono hb
  clear V_2 r3_2 X3a
  clear hb
  have x0 := V_3.x.c0; have x1 := V_3.x.c1; have xl := V_3.x.lt; have y0 := V_3.y.c0; have y1 := V_3.y.c1; have yl := V_3.y.lt
  refine Lib.hid ?_
  go_wp2_with (go_at_call 34; refine (aw_sub _ _ _ V_3.l V_3.m (HT.out.on V_3.b).here).mono ?_; rintro e w6 ⟨a7, c7, rfl, r7, hb⟩; refine Hid.out ?_)
  clear x0 x1 xl y0 y1 yl
  have V_4 := V_3.mono hb
  have r3_4 := r3_3.mono hb
  have X3_4 := X3_3.mono hb
  clear V_3 r3_3 X3_3
  clear hb
  have x0 := V_4.x.c0; have x1 := V_4.x.c1; have xl := V_4.x.lt; have y0 := V_4.y.c0; have y1 := V_4.y.c1; have yl := V_4.y.lt
  refine Lib.hid ?_
  have X7 : Bx2 (w6.alloc (Obj.cells #[.slice a7 2 c7, .string ⟨#[51]⟩] 27)) w6.heap.size (.slice a7 2 c7) (.string ⟨#[51]⟩) := Bx2.new w6 _ _ _
  have A := nb (Below.refl w6.heap.size w6) (Obj.cells #[.slice a7 2 c7, .string ⟨#[51]⟩] 27)
  have V_5 := V_4.mono A
  have r3_5 := r3_4.mono A
  have X3_5 := X3_4.mono A
  have r7_5 := r7.mono A
  clear V_4 r3_4 X3_4 r7
  clear A
  go_wp2_with (go_at_call 22; refine (aw_int _ _ V_5.l (HT.out.on V_5.b).here).mono ?_; rintro e w7 ⟨a9, c9, rfl, r9, hb⟩; refine Hid.out ?_)
  clear x0 x1 xl y0 y1 yl
  generalize hp7 : w6.heap.size = p7 at *
  clear hp7
  have V_6 := V_5.mono hb
  have r3_6 := r3_5.mono hb
  have X3_6 := X3_5.mono hb
  have r7_6 := r7_5.mono hb
  have X7_6 := X7.mono hb
  clear V_5 r3_5 X3_5 r7_5 X7
  clear hb
  have x0 := V_6.x.c0; have x1 := V_6.x.c1; have xl := V_6.x.lt; have y0 := V_6.y.c0; have y1 := V_6.y.c1; have yl := V_6.y.lt
  refine Lib.hid ?_
  have s8 : IRow (w7.alloc (Obj.cells #[.int .i64 1, .int .i64 0] 3)) (some ⟨w7.heap.size, 0, none⟩) 2 [1, 0] := irow2_new w7 _ _ _
  have A := nb (Below.refl w7.heap.size w7) (Obj.cells #[.int .i64 1, .int .i64 0] 3)
  have V_7 := V_6.mono A
  have r3_7 := r3_6.mono A
  have X3_7 := X3_6.mono A
  have r7_7 := r7_6.mono A
  have X7_7 := X7_6.mono A
  have r9_7 := r9.mono A
  clear V_6 r3_6 X3_6 r7_6 X7_6 r9
  clear A
  go_wp2_with (go_at_call 36; refine (aw_ren1 _ _ _ V_7.l s8 (HT.out.on V_7.b).here).mono ?_; rintro e w8 ⟨a13, c13, rfl, r13, hb⟩; refine Hid.out ?_)
  clear x0 x1 xl y0 y1 yl s8
  have V_8 := V_7.mono hb
  have r3_8 := r3_7.mono hb
  have X3_8 := X3_7.mono hb
  have r7_8 := r7_7.mono hb
  have X7_8 := X7_7.mono hb
  have r9_8 := r9_7.mono hb
  clear V_7 r3_7 X3_7 r7_7 X7_7 r9_7
  clear hb
  have x0 := V_8.x.c0; have x1 := V_8.x.c1; have xl := V_8.x.lt; have y0 := V_8.y.c0; have y1 := V_8.y.c1; have yl := V_8.y.lt
  refine Lib.hid ?_
  have X13 : Bx2 (w8.alloc (Obj.cells #[.slice a13 2 c13, .string ⟨#[52]⟩] 27)) w8.heap.size (.slice a13 2 c13) (.string ⟨#[52]⟩) := Bx2.new w8 _ _ _
  have X13a := X13.mono (nb (Below.refl _ _) (Obj.cells #[.int .i64 0, .int .i64 0] 3)); clear X13
  have s9 : IRow ((w8.alloc (Obj.cells #[.slice a13 2 c13, .string ⟨#[52]⟩] 27)).alloc (Obj.cells #[.int .i64 0, .int .i64 0] 3)) (some ⟨w8.heap.size + 1, 0, none⟩) 2 [0, 0] := by have := irow2_new (w8.alloc (Obj.cells #[.slice a13 2 c13, .string ⟨#[52]⟩] 27)) 0 0 3; rwa [World.size_alloc] at this
  have A := nb (nb (Below.refl w8.heap.size w8) (Obj.cells #[.slice a13 2 c13, .string ⟨#[52]⟩] 27)) (Obj.cells #[.int .i64 0, .int .i64 0] 3)
  have V_9 := V_8.mono A
  have r3_9 := r3_8.mono A
  have X3_9 := X3_8.mono A
  have r7_9 := r7_8.mono A
  have X7_9 := X7_8.mono A
  have r9_9 := r9_8.mono A
  have r13_9 := r13.mono A
  clear V_8 r3_8 X3_8 r7_8 X7_8 r9_8 r13
  clear A
  go_wp2_with (go_at_call 36; refine (aw_ren2 _ _ _ V_9.l s9 (HT.out.on V_9.b).here).mono ?_; rintro e w9 ⟨a15, c15, rfl, r15, hb⟩; refine Hid.out ?_)
  clear x0 x1 xl y0 y1 yl s9
  generalize hp13 : w8.heap.size = p13 at *
  clear hp13
  have V_10 := V_9.mono hb
  have r3_10 := r3_9.mono hb
  have X3_10 := X3_9.mono hb
  have r7_10 := r7_9.mono hb
  have X7_10 := X7_9.mono hb
  have r9_10 := r9_9.mono hb
  have r13_10 := r13_9.mono hb
  have X13_10 := X13a.mono hb
  clear V_9 r3_9 X3_9 r7_9 X7_9 r9_9 r13_9 X13a
  clear hb
  have X15 : Bx2 (w9.alloc (Obj.cells #[.slice a15 1 c15, .string ⟨#[52]⟩] 27)) w9.heap.size (.slice a15 1 c15) (.string ⟨#[52]⟩) := Bx2.new w9 _ _ _
  have A := nb (Below.refl w9.heap.size w9) (Obj.cells #[.slice a15 1 c15, .string ⟨#[52]⟩] 27)
  have V_11 := V_10.mono A
  have r3_11 := r3_10.mono A
  have X3_11 := X3_10.mono A
  have r7_11 := r7_10.mono A
  have X7_11 := X7_10.mono A
  have r9_11 := r9_10.mono A
  have r13_11 := r13_10.mono A
  have X13_11 := X13_10.mono A
  have r15_11 := r15.mono A
  clear V_10 r3_10 X3_10 r7_10 X7_10 r9_10 r13_10 X13_10 r15
  clear A
  refine Lib.hid ?_
  go_wp2_with fail
  generalize w9.alloc (Obj.cells #[.slice a15 1 c15, .string ⟨#[52]⟩] 27) = W1 at *
  generalize hp15 : w9.heap.size = p15 at *
  clear hp15
  have K : ∀ W : World, Below W1.heap.size W1 W → (((W.cell? ⟨p3, 0, none⟩ = some (.slice a3 2 c3) ∧ W.cell? ⟨p3, 1, none⟩ = some (.string ⟨#[49, 51, 47, 51]⟩)) ∧ (W.cell? ⟨p7, 0, none⟩ = some (.slice a7 2 c7) ∧ W.cell? ⟨p7, 1, none⟩ = some (.string ⟨#[51]⟩))) ∧ ((W.cell? ⟨p13, 0, none⟩ = some (.slice a13 2 c13) ∧ W.cell? ⟨p13, 1, none⟩ = some (.string ⟨#[52]⟩)) ∧ (W.cell? ⟨p15, 0, none⟩ = some (.slice a15 1 c15) ∧ W.cell? ⟨p15, 1, none⟩ = some (.string ⟨#[52]⟩)))) ∧ (SRow W a3 c3 [⟨#[51, 47, 50]⟩, ⟨#[45, 51]⟩] ∧ SRow W a7 c7 [⟨#[45, 53, 47, 50]⟩, ⟨#[48]⟩] ∧ SRow W a9 c9 [⟨#[49]⟩, ⟨#[45, 54]⟩] ∧ SRow W a13 c13 [⟨#[45, 51]⟩, ⟨#[49, 47, 50]⟩] ∧ SRow W a15 c15 [⟨#[45, 53, 47, 50]⟩]) ∧ Below w.heap.size w W := fun W hW =>
    ⟨⟨⟨⟨(X3_11.mono hW).c0, (X3_11.mono hW).c1⟩, ⟨(X7_11.mono hW).c0, (X7_11.mono hW).c1⟩⟩, ⟨⟨(X13_11.mono hW).c0, (X13_11.mono hW).c1⟩, ⟨(X15.mono hW).c0, (X15.mono hW).c1⟩⟩⟩, ⟨r3_11.mono hW, r7_11.mono hW, r9_11.mono hW, r13_11.mono hW, r15_11.mono hW⟩, Below.chain V_11.b hW⟩
  have KK := Lib.hid K; clear K V_11 r3_11 X3_11 r7_11 X7_11 r9_11 r13_11 X13_11 r15_11 X15
  have NW : Below W1.heap.size W1 W1.drew := (Below.refl _ _).drew
  go_region_held3 (fun w' => ((w'.cell? ⟨p3, 0, none⟩ = some (.slice a3 2 c3) ∧ w'.cell? ⟨p3, 1, none⟩ = some (.string ⟨#[49, 51, 47, 51]⟩)) ∧ (w'.cell? ⟨p7, 0, none⟩ = some (.slice a7 2 c7) ∧ w'.cell? ⟨p7, 1, none⟩ = some (.string ⟨#[51]⟩)))) (first | (with_reducible exact (KK.out _ NW).1.1) | (with_reducible exact (KK.out _ (nb NW _)).1.1) | (with_reducible exact (KK.out _ (nb (Below.refl W1.heap.size W1) _).drew).1.1) | fail) (first | (go_at_call 43; (with_reducible refine (aw_linea _ _ _ _).mono ?_); rintro e wl ⟨rfl, hb⟩; have NW : Below W1.heap.size W1 wl := Below.chain (nb (Below.refl W1.heap.size W1) _).drew hb; have rl := srowB hb (row2_new W1 ⟨#[51, 47, 50]⟩ ⟨#[45, 51]⟩ 22)) | (go_at_call 43; (with_reducible refine (aw_lineb _ _ _ _).mono ?_); rintro e wl ⟨rfl, hb⟩; have NW : Below W1.heap.size W1 wl := Below.chain (nb NW _) hb; have rl := srowB hb (row2_new _ ⟨#[45, 53, 47, 50]⟩ ⟨#[48]⟩ 22)) | (go_at_call 18; (with_reducible refine (aw_same2 _ _ ⟨#[49, 51, 47, 51]⟩ _ _ _ _ _ (KK.out _ NW).2.1.1 rl).mono ?_); rintro e ws ⟨rfl, hb⟩; have NW := Below.chain NW hb) | (go_at_call 18; (with_reducible refine (aw_same2 _ _ ⟨#[51]⟩ _ _ _ _ _ (KK.out _ NW).2.1.2.1 rl).mono ?_); rintro e ws ⟨rfl, hb⟩; have NW := Below.chain NW hb) | fail)
  clear hb rl
  have NV := NW; clear NW
  go_wp2_with fail
  have N0 : Below W1.heap.size W1 ws.drew := NV.drew
  go_region_held3 (fun w' => ((w'.cell? ⟨p13, 0, none⟩ = some (.slice a13 2 c13) ∧ w'.cell? ⟨p13, 1, none⟩ = some (.string ⟨#[52]⟩)) ∧ (w'.cell? ⟨p15, 0, none⟩ = some (.slice a15 1 c15) ∧ w'.cell? ⟨p15, 1, none⟩ = some (.string ⟨#[52]⟩)))) (first | (with_reducible exact (KK.out _ N0).1.2) | (with_reducible exact (KK.out _ NW).1.2) | (with_reducible exact (KK.out _ (nb NW _)).1.2) | (with_reducible exact (KK.out _ (nb NV _).drew).1.2) | fail) (first | (go_at_call 28; have rl0 := row2_drew ws ⟨#[49]⟩ ⟨#[45, 54]⟩ 41; (with_reducible refine (aw_ints2 _ _ _ _ _ _ _ (KK.out _ (nb NV _).drew).2.1.2.2.1 rl0).mono ?_); rintro e w11 ⟨rfl, hb⟩; have NW : Below W1.heap.size W1 w11 := Below.chain (nb NV _).drew hb) | (go_at_call 43; (with_reducible refine (aw_linec _ 2 _ _).mono ?_); rintro e wl ⟨rfl, hb⟩; have NW : Below W1.heap.size W1 wl := Below.chain (nb NW _) hb; have rl := srowB hb (row2_new _ ⟨#[45, 51]⟩ ⟨#[49, 47, 50]⟩ 22)) | (go_at_call 43; (with_reducible refine (aw_linec _ 1 _ _).mono ?_); rintro e wl ⟨rfl, hb⟩; have NW : Below W1.heap.size W1 wl := Below.chain (nb NW _) hb; have rl := srowB hb (row1_new _ ⟨#[45, 53, 47, 50]⟩ 22)) | (go_at_call 18; (with_reducible refine (aw_same2 _ _ ⟨#[52]⟩ _ _ _ _ _ (KK.out _ NW).2.1.2.2.2.1 rl).mono ?_); rintro e wt ⟨rfl, hb⟩; have NW := Below.chain NW hb) | (go_at_call 18; (with_reducible refine (aw_same1 _ ⟨#[52]⟩ _ _ _ _ _ (KK.out _ NW).2.1.2.2.2.2 rl).mono ?_); rintro e wt ⟨rfl, hb⟩; have NW := Below.chain NW hb) | fail)
  have HBF := Lib.hid (KK.out _ NW).2.2
  go_wp2
  refine bodyPost_ret (v := .bool true) (by simp [results, Tryz.results13, go_sem]) rfl ?_
  exact ⟨rfl, HBF.out⟩
structure OB (W : World) (p : Nat) (ao : Option Addr) (c : Nat) (o : LOut) : Prop where
  x : Bx2 W p (.slice ao o.l.length c) (.string o.k)
  r : SRow W ao c o.l
theorem OB.mono {W W' : World} {p : Nat} {ao : Option Addr} {c : Nat} {o : LOut} (h : OB W p ao c o) (g : Below W.heap.size W W') : OB W' p ao c o := ⟨h.x.mono g, h.r.mono g⟩
theorem OB.new {W : World} {Bd : Nat} {ao : Option Addr} {c : Nat} {o : LOut} (h : RowB Bd W ao c o.l) (T : TypeId) : OB (W.alloc (Obj.cells #[.slice ao o.l.length c, .string o.k] T)) W.heap.size ao c o :=
  ⟨Bx2.new W _ _ T, h.1.mono ((Below.refl _ _).alloc (Nat.le_refl _) _)⟩
end Go.Proofs.YtjobmkdaaionlaaGreatDoor
