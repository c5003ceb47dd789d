import Derived.Lib.QuietBelow
import Derived.Test.YtdibcllakkjegaaGreatDoorCut8

set_option linter.unusedVariables false
/-
  parser: level, isOperator.
-/
set_option linter.unusedSimpArgs false
set_option linter.unusedVariables false
namespace Go.Proofs.YtdibcllakkjegaaGreatDoor
open Go Go.Proofs Go.RowKit Go.Sort
theorem stokenB {R : Nat} {L : List Tk} {d : Nat} {st : RSt} {w : World} (h : At R L w d st) : Calls Tryz.prog 95 #[.pointer (some ⟨R, 0, none⟩)] w fun e w' => e = .returned (tkA (cur L st)) ∧ Below w.heap.size w w' := by
  obtain ⟨hf, nx, a, er, h1, h2, h3⟩ := h
  rw [cur_of h1 h3]
  exact ptoken_any R L nx d a er w h2 h1
set_option maxRecDepth 20000 in
theorem plevel0 {R : Nat} {L : List Tk} {d : Nat} {st : RSt} {w : World} (h : At R L w d st) (K : GT 118 R L #[.pointer (some ⟨R, 0, none⟩), .int .i64 0] (.lvl 0) d st) :
    Calls Tryz.prog 77 #[.pointer (some ⟨R, 0, none⟩), .int .i64 0] w (PT R L (.lvl 0) d st w) := by
  have KL := Lib.hid K
  clear K
  obtain ⟨b, c5, hbR, hbl, hl⟩ := (h.alloc (Obj.cells #[.int .i64 0, .int .i64 0, .string ⟨#[]⟩, .int .i64 0, .slice none 0 0] 25)).fix.levels
  have hl0 : World.cell? _ ⟨b, 0, none⟩ = some (.func (.func 118) #[.pointer (some ⟨R, 0, none⟩)] #[]) := (hl 0 (by decide)).1
  have HA0 := Lib.hid h
  have HLT := Lib.hid h.fix.lt
  have hA := h.alloc (Obj.cells #[.int .i64 0, .int .i64 0, .string ⟨#[]⟩, .int .i64 0, .slice none 0 0] 25)
  have hB := (Butt.refl R w).alloc h.fix.lt (Obj.cells #[.int .i64 0, .int .i64 0, .string ⟨#[]⟩, .int .i64 0, .slice none 0 0] 25)
  have hX := Bx5.new w (.int .i64 0) (.int .i64 0) (.string ⟨#[]⟩) (.int .i64 0) (.slice none 0 0)
  have hpR : w.heap.size ≠ R := fun e => absurd h.fix.lt (by rw [e]; exact Nat.lt_irrefl _)
  have hls : w.heap.size < (w.alloc (Obj.cells #[.int .i64 0, .int .i64 0, .string ⟨#[]⟩, .int .i64 0, .slice none 0 0] 25)).heap.size := by simp
  have A0 := Lib.hid hA; have B0 := Lib.hid hB; have XR0 := Lib.hid hX; have HPR := Lib.hid hpR; have HLS := Lib.hid hls
  clear hA hB hX hpR hls h hl hbR hbl
  go_enter Tryz.func77, Tryz.ntmps77
  go_wp2_with (go_at_call 118; refine (KL.out _ A0.out).mono ?_; rintro e w1 ⟨x1, v1, s1, rfl, hx1, hs1, ha1, hb1⟩; refine Hid.out ?_)
  obtain ⟨k1, a1, t1, n1, o1, l1, c1, q1, rfl, rfl, hk1⟩ := hx1.shape
  have HX1 := Lib.hid hx1; have HK1 := Lib.hid hk1; have HS1 := Lib.hid hs1
  have A1 := Lib.hid ha1; have B1 := Lib.hid (B0.out.trans hb1)
  have XR1 := Lib.hid (XR0.out.butt HPR.out hb1)
  clear ha1 hb1 hx1 hk1 hs1
  refine Lib.hid ?_
  clear c5 hl0
  have FT := Lib.hid (fin_tree HA0.out B1.out A1.out XR1.out HLS.out (.mk k1 a1 t1 n1 q1) (.int .i64 k1) (.int .i64 a1) (.string t1) (.int .i64 n1) (.slice o1 l1 c1) (HX1.out) _ rfl)
  have zXR := XR1.out
  have yXR0 := zXR.c0
  have yXR1 := zXR.c1
  have yXR2 := zXR.c2
  have yXR3 := zXR.c3
  have yXR4 := zXR.c4
  have fXR0 := zXR.free 0
  have fXR1 := zXR.free 1
  have fXR2 := zXR.free 2
  have fXR3 := zXR.free 3
  have fXR4 := zXR.free 4
  clear zXR
  obtain ⟨r0, r1, r2, r3, r4, rx, ra, rb⟩ := FT.out
  have GX := Lib.hid rx; have GA := Lib.hid ra; have GB := Lib.hid rb
  clear rx ra rb FT
  go_wp2
  refine bodyPost_ret (by simp [results, Tryz.results77, go_sem, r0, r1, r2, r3, r4]; rfl) rfl ?_
  exact ⟨_, _, _, rfl, GX.out, HS1.out, GA.out, GB.out⟩
set_option maxRecDepth 20000 in
theorem plevel1 {R : Nat} {L : List Tk} {d : Nat} {st : RSt} {w : World} (h : At R L w d st) (K : GT 118 R L #[.pointer (some ⟨R, 0, none⟩), .int .i64 1] (.lvl 1) d st) :
    Calls Tryz.prog 77 #[.pointer (some ⟨R, 0, none⟩), .int .i64 1] w (PT R L (.lvl 1) d st w) := by
  have KL := Lib.hid K
  clear K
  obtain ⟨b, c5, hbR, hbl, hl⟩ := (h.alloc (Obj.cells #[.int .i64 0, .int .i64 0, .string ⟨#[]⟩, .int .i64 0, .slice none 0 0] 25)).fix.levels
  have hl0 : World.cell? _ ⟨b, 2, none⟩ = some (.func (.func 118) #[.pointer (some ⟨R, 0, none⟩)] #[]) := (hl 1 (by decide)).1
  have HA0 := Lib.hid h
  have HLT := Lib.hid h.fix.lt
  have hA := h.alloc (Obj.cells #[.int .i64 0, .int .i64 0, .string ⟨#[]⟩, .int .i64 0, .slice none 0 0] 25)
  have hB := (Butt.refl R w).alloc h.fix.lt (Obj.cells #[.int .i64 0, .int .i64 0, .string ⟨#[]⟩, .int .i64 0, .slice none 0 0] 25)
  have hX := Bx5.new w (.int .i64 0) (.int .i64 0) (.string ⟨#[]⟩) (.int .i64 0) (.slice none 0 0)
  have hpR : w.heap.size ≠ R := fun e => absurd h.fix.lt (by rw [e]; exact Nat.lt_irrefl _)
  have hls : w.heap.size < (w.alloc (Obj.cells #[.int .i64 0, .int .i64 0, .string ⟨#[]⟩, .int .i64 0, .slice none 0 0] 25)).heap.size := by simp
  have A0 := Lib.hid hA; have B0 := Lib.hid hB; have XR0 := Lib.hid hX; have HPR := Lib.hid hpR; have HLS := Lib.hid hls
  clear hA hB hX hpR hls h hl hbR hbl
  go_enter Tryz.func77, Tryz.ntmps77
  go_wp2_with (go_at_call 118; refine (KL.out _ A0.out).mono ?_; rintro e w1 ⟨x1, v1, s1, rfl, hx1, hs1, ha1, hb1⟩; refine Hid.out ?_)
  obtain ⟨k1, a1, t1, n1, o1, l1, c1, q1, rfl, rfl, hk1⟩ := hx1.shape
  have HX1 := Lib.hid hx1; have HK1 := Lib.hid hk1; have HS1 := Lib.hid hs1
  have A1 := Lib.hid ha1; have B1 := Lib.hid (B0.out.trans hb1)
  have XR1 := Lib.hid (XR0.out.butt HPR.out hb1)
  clear ha1 hb1 hx1 hk1 hs1
  refine Lib.hid ?_
  clear c5 hl0
  have FT := Lib.hid (fin_tree HA0.out B1.out A1.out XR1.out HLS.out (.mk k1 a1 t1 n1 q1) (.int .i64 k1) (.int .i64 a1) (.string t1) (.int .i64 n1) (.slice o1 l1 c1) (HX1.out) _ rfl)
  have zXR := XR1.out
  have yXR0 := zXR.c0
  have yXR1 := zXR.c1
  have yXR2 := zXR.c2
  have yXR3 := zXR.c3
  have yXR4 := zXR.c4
  have fXR0 := zXR.free 0
  have fXR1 := zXR.free 1
  have fXR2 := zXR.free 2
  have fXR3 := zXR.free 3
  have fXR4 := zXR.free 4
  clear zXR
  obtain ⟨r0, r1, r2, r3, r4, rx, ra, rb⟩ := FT.out
  have GX := Lib.hid rx; have GA := Lib.hid ra; have GB := Lib.hid rb
  clear rx ra rb FT
  go_wp2
  refine bodyPost_ret (by simp [results, Tryz.results77, go_sem, r0, r1, r2, r3, r4]; rfl) rfl ?_
  exact ⟨_, _, _, rfl, GX.out, HS1.out, GA.out, GB.out⟩
set_option maxRecDepth 20000 in
theorem plevel2 {R : Nat} {L : List Tk} {d : Nat} {st : RSt} {w : World} (h : At R L w d st) (K : GT 119 R L #[.pointer (some ⟨R, 0, none⟩), .int .i64 2] (.lvl 2) d st) :
    Calls Tryz.prog 77 #[.pointer (some ⟨R, 0, none⟩), .int .i64 2] w (PT R L (.lvl 2) d st w) := by
  have KL := Lib.hid K
  clear K
  obtain ⟨b, c5, hbR, hbl, hl⟩ := (h.alloc (Obj.cells #[.int .i64 0, .int .i64 0, .string ⟨#[]⟩, .int .i64 0, .slice none 0 0] 25)).fix.levels
  have hl0 : World.cell? _ ⟨b, 4, none⟩ = some (.func (.func 119) #[.pointer (some ⟨R, 0, none⟩)] #[]) := (hl 2 (by decide)).1
  have HA0 := Lib.hid h
  have HLT := Lib.hid h.fix.lt
  have hA := h.alloc (Obj.cells #[.int .i64 0, .int .i64 0, .string ⟨#[]⟩, .int .i64 0, .slice none 0 0] 25)
  have hB := (Butt.refl R w).alloc h.fix.lt (Obj.cells #[.int .i64 0, .int .i64 0, .string ⟨#[]⟩, .int .i64 0, .slice none 0 0] 25)
  have hX := Bx5.new w (.int .i64 0) (.int .i64 0) (.string ⟨#[]⟩) (.int .i64 0) (.slice none 0 0)
  have hpR : w.heap.size ≠ R := fun e => absurd h.fix.lt (by rw [e]; exact Nat.lt_irrefl _)
  have hls : w.heap.size < (w.alloc (Obj.cells #[.int .i64 0, .int .i64 0, .string ⟨#[]⟩, .int .i64 0, .slice none 0 0] 25)).heap.size := by simp
  have A0 := Lib.hid hA; have B0 := Lib.hid hB; have XR0 := Lib.hid hX; have HPR := Lib.hid hpR; have HLS := Lib.hid hls
  clear hA hB hX hpR hls h hl hbR hbl
  go_enter Tryz.func77, Tryz.ntmps77
  go_wp2_with (go_at_call 119; refine (KL.out _ A0.out).mono ?_; rintro e w1 ⟨x1, v1, s1, rfl, hx1, hs1, ha1, hb1⟩; refine Hid.out ?_)
  obtain ⟨k1, a1, t1, n1, o1, l1, c1, q1, rfl, rfl, hk1⟩ := hx1.shape
  have HX1 := Lib.hid hx1; have HK1 := Lib.hid hk1; have HS1 := Lib.hid hs1
  have A1 := Lib.hid ha1; have B1 := Lib.hid (B0.out.trans hb1)
  have XR1 := Lib.hid (XR0.out.butt HPR.out hb1)
  clear ha1 hb1 hx1 hk1 hs1
  refine Lib.hid ?_
  clear c5 hl0
  have FT := Lib.hid (fin_tree HA0.out B1.out A1.out XR1.out HLS.out (.mk k1 a1 t1 n1 q1) (.int .i64 k1) (.int .i64 a1) (.string t1) (.int .i64 n1) (.slice o1 l1 c1) (HX1.out) _ rfl)
  have zXR := XR1.out
  have yXR0 := zXR.c0
  have yXR1 := zXR.c1
  have yXR2 := zXR.c2
  have yXR3 := zXR.c3
  have yXR4 := zXR.c4
  have fXR0 := zXR.free 0
  have fXR1 := zXR.free 1
  have fXR2 := zXR.free 2
  have fXR3 := zXR.free 3
  have fXR4 := zXR.free 4
  clear zXR
  obtain ⟨r0, r1, r2, r3, r4, rx, ra, rb⟩ := FT.out
  have GX := Lib.hid rx; have GA := Lib.hid ra; have GB := Lib.hid rb
  clear rx ra rb FT
  go_wp2
  refine bodyPost_ret (by simp [results, Tryz.results77, go_sem, r0, r1, r2, r3, r4]; rfl) rfl ?_
  exact ⟨_, _, _, rfl, GX.out, HS1.out, GA.out, GB.out⟩
set_option maxRecDepth 20000 in
theorem plevel3 {R : Nat} {L : List Tk} {d : Nat} {st : RSt} {w : World} (h : At R L w d st) (K : GT 120 R L #[.pointer (some ⟨R, 0, none⟩), .int .i64 3] (.lvl 3) d st) :
    Calls Tryz.prog 77 #[.pointer (some ⟨R, 0, none⟩), .int .i64 3] w (PT R L (.lvl 3) d st w) := by
  have KL := Lib.hid K
  clear K
  obtain ⟨b, c5, hbR, hbl, hl⟩ := (h.alloc (Obj.cells #[.int .i64 0, .int .i64 0, .string ⟨#[]⟩, .int .i64 0, .slice none 0 0] 25)).fix.levels
  have hl0 : World.cell? _ ⟨b, 6, none⟩ = some (.func (.func 120) #[.pointer (some ⟨R, 0, none⟩)] #[]) := (hl 3 (by decide)).1
  have HA0 := Lib.hid h
  have HLT := Lib.hid h.fix.lt
  have hA := h.alloc (Obj.cells #[.int .i64 0, .int .i64 0, .string ⟨#[]⟩, .int .i64 0, .slice none 0 0] 25)
  have hB := (Butt.refl R w).alloc h.fix.lt (Obj.cells #[.int .i64 0, .int .i64 0, .string ⟨#[]⟩, .int .i64 0, .slice none 0 0] 25)
  have hX := Bx5.new w (.int .i64 0) (.int .i64 0) (.string ⟨#[]⟩) (.int .i64 0) (.slice none 0 0)
  have hpR : w.heap.size ≠ R := fun e => absurd h.fix.lt (by rw [e]; exact Nat.lt_irrefl _)
  have hls : w.heap.size < (w.alloc (Obj.cells #[.int .i64 0, .int .i64 0, .string ⟨#[]⟩, .int .i64 0, .slice none 0 0] 25)).heap.size := by simp
  have A0 := Lib.hid hA; have B0 := Lib.hid hB; have XR0 := Lib.hid hX; have HPR := Lib.hid hpR; have HLS := Lib.hid hls
  clear hA hB hX hpR hls h hl hbR hbl
  go_enter Tryz.func77, Tryz.ntmps77
  go_wp2_with (go_at_call 120; refine (KL.out _ A0.out).mono ?_; rintro e w1 ⟨x1, v1, s1, rfl, hx1, hs1, ha1, hb1⟩; refine Hid.out ?_)
  obtain ⟨k1, a1, t1, n1, o1, l1, c1, q1, rfl, rfl, hk1⟩ := hx1.shape
  have HX1 := Lib.hid hx1; have HK1 := Lib.hid hk1; have HS1 := Lib.hid hs1
  have A1 := Lib.hid ha1; have B1 := Lib.hid (B0.out.trans hb1)
  have XR1 := Lib.hid (XR0.out.butt HPR.out hb1)
  clear ha1 hb1 hx1 hk1 hs1
  refine Lib.hid ?_
  clear c5 hl0
  have FT := Lib.hid (fin_tree HA0.out B1.out A1.out XR1.out HLS.out (.mk k1 a1 t1 n1 q1) (.int .i64 k1) (.int .i64 a1) (.string t1) (.int .i64 n1) (.slice o1 l1 c1) (HX1.out) _ rfl)
  have zXR := XR1.out
  have yXR0 := zXR.c0
  have yXR1 := zXR.c1
  have yXR2 := zXR.c2
  have yXR3 := zXR.c3
  have yXR4 := zXR.c4
  have fXR0 := zXR.free 0
  have fXR1 := zXR.free 1
  have fXR2 := zXR.free 2
  have fXR3 := zXR.free 3
  have fXR4 := zXR.free 4
  clear zXR
  obtain ⟨r0, r1, r2, r3, r4, rx, ra, rb⟩ := FT.out
  have GX := Lib.hid rx; have GA := Lib.hid ra; have GB := Lib.hid rb
  clear rx ra rb FT
  go_wp2
  refine bodyPost_ret (by simp [results, Tryz.results77, go_sem, r0, r1, r2, r3, r4]; rfl) rfl ?_
  exact ⟨_, _, _, rfl, GX.out, HS1.out, GA.out, GB.out⟩
set_option maxRecDepth 20000 in
theorem plevel4 {R : Nat} {L : List Tk} {d : Nat} {st : RSt} {w : World} (h : At R L w d st) (K : GT 118 R L #[.pointer (some ⟨R, 0, none⟩), .int .i64 4] (.lvl 4) d st) :
    Calls Tryz.prog 77 #[.pointer (some ⟨R, 0, none⟩), .int .i64 4] w (PT R L (.lvl 4) d st w) := by
  have KL := Lib.hid K
  clear K
  obtain ⟨b, c5, hbR, hbl, hl⟩ := (h.alloc (Obj.cells #[.int .i64 0, .int .i64 0, .string ⟨#[]⟩, .int .i64 0, .slice none 0 0] 25)).fix.levels
  have hl0 : World.cell? _ ⟨b, 8, none⟩ = some (.func (.func 118) #[.pointer (some ⟨R, 0, none⟩)] #[]) := (hl 4 (by decide)).1
  have HA0 := Lib.hid h
  have HLT := Lib.hid h.fix.lt
  have hA := h.alloc (Obj.cells #[.int .i64 0, .int .i64 0, .string ⟨#[]⟩, .int .i64 0, .slice none 0 0] 25)
  have hB := (Butt.refl R w).alloc h.fix.lt (Obj.cells #[.int .i64 0, .int .i64 0, .string ⟨#[]⟩, .int .i64 0, .slice none 0 0] 25)
  have hX := Bx5.new w (.int .i64 0) (.int .i64 0) (.string ⟨#[]⟩) (.int .i64 0) (.slice none 0 0)
  have hpR : w.heap.size ≠ R := fun e => absurd h.fix.lt (by rw [e]; exact Nat.lt_irrefl _)
  have hls : w.heap.size < (w.alloc (Obj.cells #[.int .i64 0, .int .i64 0, .string ⟨#[]⟩, .int .i64 0, .slice none 0 0] 25)).heap.size := by simp
  have A0 := Lib.hid hA; have B0 := Lib.hid hB; have XR0 := Lib.hid hX; have HPR := Lib.hid hpR; have HLS := Lib.hid hls
  clear hA hB hX hpR hls h hl hbR hbl
  go_enter Tryz.func77, Tryz.ntmps77
  go_wp2_with (go_at_call 118; refine (KL.out _ A0.out).mono ?_; rintro e w1 ⟨x1, v1, s1, rfl, hx1, hs1, ha1, hb1⟩; refine Hid.out ?_)
  obtain ⟨k1, a1, t1, n1, o1, l1, c1, q1, rfl, rfl, hk1⟩ := hx1.shape
  have HX1 := Lib.hid hx1; have HK1 := Lib.hid hk1; have HS1 := Lib.hid hs1
  have A1 := Lib.hid ha1; have B1 := Lib.hid (B0.out.trans hb1)
  have XR1 := Lib.hid (XR0.out.butt HPR.out hb1)
  clear ha1 hb1 hx1 hk1 hs1
  refine Lib.hid ?_
  clear c5 hl0
  have FT := Lib.hid (fin_tree HA0.out B1.out A1.out XR1.out HLS.out (.mk k1 a1 t1 n1 q1) (.int .i64 k1) (.int .i64 a1) (.string t1) (.int .i64 n1) (.slice o1 l1 c1) (HX1.out) _ rfl)
  have zXR := XR1.out
  have yXR0 := zXR.c0
  have yXR1 := zXR.c1
  have yXR2 := zXR.c2
  have yXR3 := zXR.c3
  have yXR4 := zXR.c4
  have fXR0 := zXR.free 0
  have fXR1 := zXR.free 1
  have fXR2 := zXR.free 2
  have fXR3 := zXR.free 3
  have fXR4 := zXR.free 4
  clear zXR
  obtain ⟨r0, r1, r2, r3, r4, rx, ra, rb⟩ := FT.out
  have GX := Lib.hid rx; have GA := Lib.hid ra; have GB := Lib.hid rb
  clear rx ra rb FT
  go_wp2
  refine bodyPost_ret (by simp [results, Tryz.results77, go_sem, r0, r1, r2, r3, r4]; rfl) rfl ?_
  exact ⟨_, _, _, rfl, GX.out, HS1.out, GA.out, GB.out⟩
set_option maxRecDepth 20000 in
theorem plevel5 {R : Nat} {L : List Tk} {d : Nat} {st : RSt} {w : World} (h : At R L w d st) (K : GT 118 R L #[.pointer (some ⟨R, 0, none⟩), .int .i64 5] (.lvl 5) d st) :
    Calls Tryz.prog 77 #[.pointer (some ⟨R, 0, none⟩), .int .i64 5] w (PT R L (.lvl 5) d st w) := by
  have KL := Lib.hid K
  clear K
  obtain ⟨b, c5, hbR, hbl, hl⟩ := (h.alloc (Obj.cells #[.int .i64 0, .int .i64 0, .string ⟨#[]⟩, .int .i64 0, .slice none 0 0] 25)).fix.levels
  have hl0 : World.cell? _ ⟨b, 10, none⟩ = some (.func (.func 118) #[.pointer (some ⟨R, 0, none⟩)] #[]) := (hl 5 (by decide)).1
  have HA0 := Lib.hid h
  have HLT := Lib.hid h.fix.lt
  have hA := h.alloc (Obj.cells #[.int .i64 0, .int .i64 0, .string ⟨#[]⟩, .int .i64 0, .slice none 0 0] 25)
  have hB := (Butt.refl R w).alloc h.fix.lt (Obj.cells #[.int .i64 0, .int .i64 0, .string ⟨#[]⟩, .int .i64 0, .slice none 0 0] 25)
  have hX := Bx5.new w (.int .i64 0) (.int .i64 0) (.string ⟨#[]⟩) (.int .i64 0) (.slice none 0 0)
  have hpR : w.heap.size ≠ R := fun e => absurd h.fix.lt (by rw [e]; exact Nat.lt_irrefl _)
  have hls : w.heap.size < (w.alloc (Obj.cells #[.int .i64 0, .int .i64 0, .string ⟨#[]⟩, .int .i64 0, .slice none 0 0] 25)).heap.size := by simp
  have A0 := Lib.hid hA; have B0 := Lib.hid hB; have XR0 := Lib.hid hX; have HPR := Lib.hid hpR; have HLS := Lib.hid hls
  clear hA hB hX hpR hls h hl hbR hbl
  go_enter Tryz.func77, Tryz.ntmps77
  go_wp2_with (go_at_call 118; refine (KL.out _ A0.out).mono ?_; rintro e w1 ⟨x1, v1, s1, rfl, hx1, hs1, ha1, hb1⟩; refine Hid.out ?_)
  obtain ⟨k1, a1, t1, n1, o1, l1, c1, q1, rfl, rfl, hk1⟩ := hx1.shape
  have HX1 := Lib.hid hx1; have HK1 := Lib.hid hk1; have HS1 := Lib.hid hs1
  have A1 := Lib.hid ha1; have B1 := Lib.hid (B0.out.trans hb1)
  have XR1 := Lib.hid (XR0.out.butt HPR.out hb1)
  clear ha1 hb1 hx1 hk1 hs1
  refine Lib.hid ?_
  clear c5 hl0
  have FT := Lib.hid (fin_tree HA0.out B1.out A1.out XR1.out HLS.out (.mk k1 a1 t1 n1 q1) (.int .i64 k1) (.int .i64 a1) (.string t1) (.int .i64 n1) (.slice o1 l1 c1) (HX1.out) _ rfl)
  have zXR := XR1.out
  have yXR0 := zXR.c0
  have yXR1 := zXR.c1
  have yXR2 := zXR.c2
  have yXR3 := zXR.c3
  have yXR4 := zXR.c4
  have fXR0 := zXR.free 0
  have fXR1 := zXR.free 1
  have fXR2 := zXR.free 2
  have fXR3 := zXR.free 3
  have fXR4 := zXR.free 4
  clear zXR
  obtain ⟨r0, r1, r2, r3, r4, rx, ra, rb⟩ := FT.out
  have GX := Lib.hid rx; have GA := Lib.hid ra; have GB := Lib.hid rb
  clear rx ra rb FT
  go_wp2
  refine bodyPost_ret (by simp [results, Tryz.results77, go_sem, r0, r1, r2, r3, r4]; rfl) rfl ?_
  exact ⟨_, _, _, rfl, GX.out, HS1.out, GA.out, GB.out⟩
set_option maxRecDepth 20000 in
theorem plevel6 {R : Nat} {L : List Tk} {d : Nat} {st : RSt} {w : World} (h : At R L w d st) (K : GT 119 R L #[.pointer (some ⟨R, 0, none⟩), .int .i64 6] (.lvl 6) d st) :
    Calls Tryz.prog 77 #[.pointer (some ⟨R, 0, none⟩), .int .i64 6] w (PT R L (.lvl 6) d st w) := by
  have KL := Lib.hid K
  clear K
  obtain ⟨b, c5, hbR, hbl, hl⟩ := (h.alloc (Obj.cells #[.int .i64 0, .int .i64 0, .string ⟨#[]⟩, .int .i64 0, .slice none 0 0] 25)).fix.levels
  have hl0 : World.cell? _ ⟨b, 12, none⟩ = some (.func (.func 119) #[.pointer (some ⟨R, 0, none⟩)] #[]) := (hl 6 (by decide)).1
  have HA0 := Lib.hid h
  have HLT := Lib.hid h.fix.lt
  have hA := h.alloc (Obj.cells #[.int .i64 0, .int .i64 0, .string ⟨#[]⟩, .int .i64 0, .slice none 0 0] 25)
  have hB := (Butt.refl R w).alloc h.fix.lt (Obj.cells #[.int .i64 0, .int .i64 0, .string ⟨#[]⟩, .int .i64 0, .slice none 0 0] 25)
  have hX := Bx5.new w (.int .i64 0) (.int .i64 0) (.string ⟨#[]⟩) (.int .i64 0) (.slice none 0 0)
  have hpR : w.heap.size ≠ R := fun e => absurd h.fix.lt (by rw [e]; exact Nat.lt_irrefl _)
  have hls : w.heap.size < (w.alloc (Obj.cells #[.int .i64 0, .int .i64 0, .string ⟨#[]⟩, .int .i64 0, .slice none 0 0] 25)).heap.size := by simp
  have A0 := Lib.hid hA; have B0 := Lib.hid hB; have XR0 := Lib.hid hX; have HPR := Lib.hid hpR; have HLS := Lib.hid hls
  clear hA hB hX hpR hls h hl hbR hbl
  go_enter Tryz.func77, Tryz.ntmps77
  go_wp2_with (go_at_call 119; refine (KL.out _ A0.out).mono ?_; rintro e w1 ⟨x1, v1, s1, rfl, hx1, hs1, ha1, hb1⟩; refine Hid.out ?_)
  obtain ⟨k1, a1, t1, n1, o1, l1, c1, q1, rfl, rfl, hk1⟩ := hx1.shape
  have HX1 := Lib.hid hx1; have HK1 := Lib.hid hk1; have HS1 := Lib.hid hs1
  have A1 := Lib.hid ha1; have B1 := Lib.hid (B0.out.trans hb1)
  have XR1 := Lib.hid (XR0.out.butt HPR.out hb1)
  clear ha1 hb1 hx1 hk1 hs1
  refine Lib.hid ?_
  clear c5 hl0
  have FT := Lib.hid (fin_tree HA0.out B1.out A1.out XR1.out HLS.out (.mk k1 a1 t1 n1 q1) (.int .i64 k1) (.int .i64 a1) (.string t1) (.int .i64 n1) (.slice o1 l1 c1) (HX1.out) _ rfl)
  have zXR := XR1.out
  have yXR0 := zXR.c0
  have yXR1 := zXR.c1
  have yXR2 := zXR.c2
  have yXR3 := zXR.c3
  have yXR4 := zXR.c4
  have fXR0 := zXR.free 0
  have fXR1 := zXR.free 1
  have fXR2 := zXR.free 2
  have fXR3 := zXR.free 3
  have fXR4 := zXR.free 4
  clear zXR
  obtain ⟨r0, r1, r2, r3, r4, rx, ra, rb⟩ := FT.out
  have GX := Lib.hid rx; have GA := Lib.hid ra; have GB := Lib.hid rb
  clear rx ra rb FT
  go_wp2
  refine bodyPost_ret (by simp [results, Tryz.results77, go_sem, r0, r1, r2, r3, r4]; rfl) rfl ?_
  exact ⟨_, _, _, rfl, GX.out, HS1.out, GA.out, GB.out⟩
set_option maxRecDepth 20000 in
theorem plevel7 {R : Nat} {L : List Tk} {d : Nat} {st : RSt} {w : World} (h : At R L w d st) (K : GT 121 R L #[.pointer (some ⟨R, 0, none⟩), .int .i64 7] (.lvl 7) d st) :
    Calls Tryz.prog 77 #[.pointer (some ⟨R, 0, none⟩), .int .i64 7] w (PT R L (.lvl 7) d st w) := by
  have KL := Lib.hid K
  clear K
  obtain ⟨b, c5, hbR, hbl, hl⟩ := (h.alloc (Obj.cells #[.int .i64 0, .int .i64 0, .string ⟨#[]⟩, .int .i64 0, .slice none 0 0] 25)).fix.levels
  have hl0 : World.cell? _ ⟨b, 14, none⟩ = some (.func (.func 121) #[.pointer (some ⟨R, 0, none⟩)] #[]) := (hl 7 (by decide)).1
  have HA0 := Lib.hid h
  have HLT := Lib.hid h.fix.lt
  have hA := h.alloc (Obj.cells #[.int .i64 0, .int .i64 0, .string ⟨#[]⟩, .int .i64 0, .slice none 0 0] 25)
  have hB := (Butt.refl R w).alloc h.fix.lt (Obj.cells #[.int .i64 0, .int .i64 0, .string ⟨#[]⟩, .int .i64 0, .slice none 0 0] 25)
  have hX := Bx5.new w (.int .i64 0) (.int .i64 0) (.string ⟨#[]⟩) (.int .i64 0) (.slice none 0 0)
  have hpR : w.heap.size ≠ R := fun e => absurd h.fix.lt (by rw [e]; exact Nat.lt_irrefl _)
  have hls : w.heap.size < (w.alloc (Obj.cells #[.int .i64 0, .int .i64 0, .string ⟨#[]⟩, .int .i64 0, .slice none 0 0] 25)).heap.size := by simp
  have A0 := Lib.hid hA; have B0 := Lib.hid hB; have XR0 := Lib.hid hX; have HPR := Lib.hid hpR; have HLS := Lib.hid hls
  clear hA hB hX hpR hls h hl hbR hbl
  go_enter Tryz.func77, Tryz.ntmps77
  go_wp2_with (go_at_call 121; refine (KL.out _ A0.out).mono ?_; rintro e w1 ⟨x1, v1, s1, rfl, hx1, hs1, ha1, hb1⟩; refine Hid.out ?_)
  obtain ⟨k1, a1, t1, n1, o1, l1, c1, q1, rfl, rfl, hk1⟩ := hx1.shape
  have HX1 := Lib.hid hx1; have HK1 := Lib.hid hk1; have HS1 := Lib.hid hs1
  have A1 := Lib.hid ha1; have B1 := Lib.hid (B0.out.trans hb1)
  have XR1 := Lib.hid (XR0.out.butt HPR.out hb1)
  clear ha1 hb1 hx1 hk1 hs1
  refine Lib.hid ?_
  clear c5 hl0
  have FT := Lib.hid (fin_tree HA0.out B1.out A1.out XR1.out HLS.out (.mk k1 a1 t1 n1 q1) (.int .i64 k1) (.int .i64 a1) (.string t1) (.int .i64 n1) (.slice o1 l1 c1) (HX1.out) _ rfl)
  have zXR := XR1.out
  have yXR0 := zXR.c0
  have yXR1 := zXR.c1
  have yXR2 := zXR.c2
  have yXR3 := zXR.c3
  have yXR4 := zXR.c4
  have fXR0 := zXR.free 0
  have fXR1 := zXR.free 1
  have fXR2 := zXR.free 2
  have fXR3 := zXR.free 3
  have fXR4 := zXR.free 4
  clear zXR
  obtain ⟨r0, r1, r2, r3, r4, rx, ra, rb⟩ := FT.out
  have GX := Lib.hid rx; have GA := Lib.hid ra; have GB := Lib.hid rb
  clear rx ra rb FT
  go_wp2
  refine bodyPost_ret (by simp [results, Tryz.results77, go_sem, r0, r1, r2, r3, r4]; rfl) rfl ?_
  exact ⟨_, _, _, rfl, GX.out, HS1.out, GA.out, GB.out⟩
set_option maxRecDepth 20000 in
theorem pisOp0 {R : Nat} {L : List Tk} {d : Nat} {st : RSt} {w : World} (h : At R L w d st) :
    Calls Tryz.prog 143 #[.pointer (some ⟨R, 0, none⟩), .int .i64 0] w fun e w' => e = .returned (.bool (Lib.containsS (lvO 0) (cur L st).t)) ∧ At R L w' d st ∧ Butt R w w' := by
  obtain ⟨b, c5, hbR, hbl, hl⟩ := h.fix.levels
  obtain ⟨v, hv0, hop⟩ := (hl 0 (by decide)).2
  obtain ⟨q, rfl, hqR, hql, hq⟩ := hop.resolve_left (fun e => absurd e.1 (by simp [lvO]))
  have hv : w.cell? ⟨b, 1, none⟩ = some (.slice (some ⟨q, 0, none⟩) 1 1) := hv0
  clear hv0 hop
  have hq' : ∀ W, Butt R w W → ∀ j, j < (lvO 0).length → W.cell? ⟨q, 0 + j, none⟩ = some (.string ((lvO 0).getD j ByteArray.empty)) := fun W hb j hj => by
    rw [Nat.zero_add]; exact (hb.cell (p := ⟨q, j, none⟩) hql hqR).trans (hq j hj)
  have CS := fun (x : ByteArray) W (hb : Butt R w W) => Tryz.slices_Contains_string q 0 1 1 (lvO 0) x W (by decide) (by decide) (hq' W hb)
  have ht : (lvO 0).take 1 = lvO 0 := rfl
  rw [ht] at CS
  have hf := run_field_tok1
  have CT := fun d' os => Calls.regrown_of (stokenB (h.below (below_regrown w d' os)))
  generalize cur L st = T at *
  obtain ⟨tk, tt, ta⟩ := T
  unfold tkA at *
  dsimp only at *
  generalize Lib.containsS (lvO 0) = CC at *
  have CS2 : ∀ d os, Calls Tryz.prog 161 #[.slice (some ⟨q, 0, none⟩) 1 1, .string tt] (grow (redrawn w d) os) fun e w'' => e = .returned (.bool (CC tt)) ∧ ∃ p : Regrown, w'' = grow (redrawn w p.d) p.os := fun d os => Calls.regrown_of ((CS tt _ (Butt.of_below h.fix.lt (below_regrown w d os))).mono (by rintro e w' ⟨rfl, rfl⟩; exact ⟨rfl, Below.refl _ _⟩))
  have KT := Lib.hid CT; have KS := Lib.hid CS2
  have g5 : ∀ d os, (grow (redrawn w d) os).cell? ⟨R, 5, none⟩ = some (.slice (some ⟨b, 0, none⟩) 8 8) := fun d os => cell_regrown c5 d os
  have g6 : ∀ d os, (grow (redrawn w d) os).cell? ⟨b, 1, none⟩ = some (.slice (some ⟨q, 0, none⟩) 1 1) := fun d os => cell_regrown hv d os
  have HH := Lib.hid h
  clear h CT CS CS2 hq' hq hl ht hqR hql hbR hbl
  go_enter Tryz.func143, Tryz.ntmps143
  go_wp2_with fail
  refine wp_region_quiet_below (by kernel_rfl) (by kernel_rfl) ?_
  quiet_step (fail)
  quiet_step (fail)
  quiet_step (fail)
  quiet_step (fail)
  quiet_step (fail)
  quiet_step (fail)
  quiet_step (fail)
  quiet_step (fail)
  quiet_step (fail)
  quiet_step (exact KT.out _ _)
  quiet_step (fail)
  quiet_step (exact KS.out _ _)
  quiet_step (fail)
  refine wpQuiet_nil ?_
  intro _ hw'
  obtain ⟨⟨dq, osq⟩, hw''⟩ := hw'
  subst hw''
  go_wp2
  go_ret
  exact ⟨rfl, HH.out.below (below_regrown w dq osq), Butt.of_below HH.out.fix.lt (below_regrown w dq osq)⟩
set_option maxRecDepth 20000 in
theorem pisOp1 {R : Nat} {L : List Tk} {d : Nat} {st : RSt} {w : World} (h : At R L w d st) :
    Calls Tryz.prog 143 #[.pointer (some ⟨R, 0, none⟩), .int .i64 1] w fun e w' => e = .returned (.bool (Lib.containsS (lvO 1) (cur L st).t)) ∧ At R L w' d st ∧ Butt R w w' := by
  obtain ⟨b, c5, hbR, hbl, hl⟩ := h.fix.levels
  obtain ⟨v, hv0, hop⟩ := (hl 1 (by decide)).2
  obtain ⟨q, rfl, hqR, hql, hq⟩ := hop.resolve_left (fun e => absurd e.1 (by simp [lvO]))
  have hv : w.cell? ⟨b, 3, none⟩ = some (.slice (some ⟨q, 0, none⟩) 1 1) := hv0
  clear hv0 hop
  have hq' : ∀ W, Butt R w W → ∀ j, j < (lvO 1).length → W.cell? ⟨q, 0 + j, none⟩ = some (.string ((lvO 1).getD j ByteArray.empty)) := fun W hb j hj => by
    rw [Nat.zero_add]; exact (hb.cell (p := ⟨q, j, none⟩) hql hqR).trans (hq j hj)
  have CS := fun (x : ByteArray) W (hb : Butt R w W) => Tryz.slices_Contains_string q 0 1 1 (lvO 1) x W (by decide) (by decide) (hq' W hb)
  have ht : (lvO 1).take 1 = lvO 1 := rfl
  rw [ht] at CS
  have hf := run_field_tok1
  have CT := fun d' os => Calls.regrown_of (stokenB (h.below (below_regrown w d' os)))
  generalize cur L st = T at *
  obtain ⟨tk, tt, ta⟩ := T
  unfold tkA at *
  dsimp only at *
  generalize Lib.containsS (lvO 1) = CC at *
  have CS2 : ∀ d os, Calls Tryz.prog 161 #[.slice (some ⟨q, 0, none⟩) 1 1, .string tt] (grow (redrawn w d) os) fun e w'' => e = .returned (.bool (CC tt)) ∧ ∃ p : Regrown, w'' = grow (redrawn w p.d) p.os := fun d os => Calls.regrown_of ((CS tt _ (Butt.of_below h.fix.lt (below_regrown w d os))).mono (by rintro e w' ⟨rfl, rfl⟩; exact ⟨rfl, Below.refl _ _⟩))
  have KT := Lib.hid CT; have KS := Lib.hid CS2
  have g5 : ∀ d os, (grow (redrawn w d) os).cell? ⟨R, 5, none⟩ = some (.slice (some ⟨b, 0, none⟩) 8 8) := fun d os => cell_regrown c5 d os
  have g6 : ∀ d os, (grow (redrawn w d) os).cell? ⟨b, 3, none⟩ = some (.slice (some ⟨q, 0, none⟩) 1 1) := fun d os => cell_regrown hv d os
  have HH := Lib.hid h
  clear h CT CS CS2 hq' hq hl ht hqR hql hbR hbl
  go_enter Tryz.func143, Tryz.ntmps143
  go_wp2_with fail
  refine wp_region_quiet_below (by kernel_rfl) (by kernel_rfl) ?_
  quiet_step (fail)
  quiet_step (fail)
  quiet_step (fail)
  quiet_step (fail)
  quiet_step (fail)
  quiet_step (fail)
  quiet_step (fail)
  quiet_step (fail)
  quiet_step (fail)
  quiet_step (exact KT.out _ _)
  quiet_step (fail)
  quiet_step (exact KS.out _ _)
  quiet_step (fail)
  refine wpQuiet_nil ?_
  intro _ hw'
  obtain ⟨⟨dq, osq⟩, hw''⟩ := hw'
  subst hw''
  go_wp2
  go_ret
  exact ⟨rfl, HH.out.below (below_regrown w dq osq), Butt.of_below HH.out.fix.lt (below_regrown w dq osq)⟩
set_option maxRecDepth 20000 in
theorem pisOp2 {R : Nat} {L : List Tk} {d : Nat} {st : RSt} {w : World} (h : At R L w d st) :
    Calls Tryz.prog 143 #[.pointer (some ⟨R, 0, none⟩), .int .i64 2] w fun e w' => e = .returned (.bool (Lib.containsS (lvO 2) (cur L st).t)) ∧ At R L w' d st ∧ Butt R w w' := by
  obtain ⟨b, c5, hbR, hbl, hl⟩ := h.fix.levels
  obtain ⟨v, hv0, hop⟩ := (hl 2 (by decide)).2
  obtain ⟨q, rfl, hqR, hql, hq⟩ := hop.resolve_left (fun e => absurd e.1 (by simp [lvO]))
  have hv : w.cell? ⟨b, 5, none⟩ = some (.slice (some ⟨q, 0, none⟩) 1 1) := hv0
  clear hv0 hop
  have hq' : ∀ W, Butt R w W → ∀ j, j < (lvO 2).length → W.cell? ⟨q, 0 + j, none⟩ = some (.string ((lvO 2).getD j ByteArray.empty)) := fun W hb j hj => by
    rw [Nat.zero_add]; exact (hb.cell (p := ⟨q, j, none⟩) hql hqR).trans (hq j hj)
  have CS := fun (x : ByteArray) W (hb : Butt R w W) => Tryz.slices_Contains_string q 0 1 1 (lvO 2) x W (by decide) (by decide) (hq' W hb)
  have ht : (lvO 2).take 1 = lvO 2 := rfl
  rw [ht] at CS
  have hf := run_field_tok1
  have CT := fun d' os => Calls.regrown_of (stokenB (h.below (below_regrown w d' os)))
  generalize cur L st = T at *
  obtain ⟨tk, tt, ta⟩ := T
  unfold tkA at *
  dsimp only at *
  generalize Lib.containsS (lvO 2) = CC at *
  have CS2 : ∀ d os, Calls Tryz.prog 161 #[.slice (some ⟨q, 0, none⟩) 1 1, .string tt] (grow (redrawn w d) os) fun e w'' => e = .returned (.bool (CC tt)) ∧ ∃ p : Regrown, w'' = grow (redrawn w p.d) p.os := fun d os => Calls.regrown_of ((CS tt _ (Butt.of_below h.fix.lt (below_regrown w d os))).mono (by rintro e w' ⟨rfl, rfl⟩; exact ⟨rfl, Below.refl _ _⟩))
  have KT := Lib.hid CT; have KS := Lib.hid CS2
  have g5 : ∀ d os, (grow (redrawn w d) os).cell? ⟨R, 5, none⟩ = some (.slice (some ⟨b, 0, none⟩) 8 8) := fun d os => cell_regrown c5 d os
  have g6 : ∀ d os, (grow (redrawn w d) os).cell? ⟨b, 5, none⟩ = some (.slice (some ⟨q, 0, none⟩) 1 1) := fun d os => cell_regrown hv d os
  have HH := Lib.hid h
  clear h CT CS CS2 hq' hq hl ht hqR hql hbR hbl
  go_enter Tryz.func143, Tryz.ntmps143
  go_wp2_with fail
  refine wp_region_quiet_below (by kernel_rfl) (by kernel_rfl) ?_
  quiet_step (fail)
  quiet_step (fail)
  quiet_step (fail)
  quiet_step (fail)
  quiet_step (fail)
  quiet_step (fail)
  quiet_step (fail)
  quiet_step (fail)
  quiet_step (fail)
  quiet_step (exact KT.out _ _)
  quiet_step (fail)
  quiet_step (exact KS.out _ _)
  quiet_step (fail)
  refine wpQuiet_nil ?_
  intro _ hw'
  obtain ⟨⟨dq, osq⟩, hw''⟩ := hw'
  subst hw''
  go_wp2
  go_ret
  exact ⟨rfl, HH.out.below (below_regrown w dq osq), Butt.of_below HH.out.fix.lt (below_regrown w dq osq)⟩
set_option maxRecDepth 20000 in
theorem pisOp3 {R : Nat} {L : List Tk} {d : Nat} {st : RSt} {w : World} (h : At R L w d st) :
    Calls Tryz.prog 143 #[.pointer (some ⟨R, 0, none⟩), .int .i64 3] w fun e w' => e = .returned (.bool (Lib.containsS (lvO 3) (cur L st).t)) ∧ At R L w' d st ∧ Butt R w w' := by
  obtain ⟨b, c5, hbR, hbl, hl⟩ := h.fix.levels
  obtain ⟨v, hv0, hop⟩ := (hl 3 (by decide)).2
  obtain ⟨q, rfl, hqR, hql, hq⟩ := hop.resolve_left (fun e => absurd e.1 (by simp [lvO]))
  have hv : w.cell? ⟨b, 7, none⟩ = some (.slice (some ⟨q, 0, none⟩) 6 6) := hv0
  clear hv0 hop
  have hq' : ∀ W, Butt R w W → ∀ j, j < (lvO 3).length → W.cell? ⟨q, 0 + j, none⟩ = some (.string ((lvO 3).getD j ByteArray.empty)) := fun W hb j hj => by
    rw [Nat.zero_add]; exact (hb.cell (p := ⟨q, j, none⟩) hql hqR).trans (hq j hj)
  have CS := fun (x : ByteArray) W (hb : Butt R w W) => Tryz.slices_Contains_string q 0 6 6 (lvO 3) x W (by decide) (by decide) (hq' W hb)
  have ht : (lvO 3).take 6 = lvO 3 := rfl
  rw [ht] at CS
  have hf := run_field_tok1
  have CT := fun d' os => Calls.regrown_of (stokenB (h.below (below_regrown w d' os)))
  generalize cur L st = T at *
  obtain ⟨tk, tt, ta⟩ := T
  unfold tkA at *
  dsimp only at *
  generalize Lib.containsS (lvO 3) = CC at *
  have CS2 : ∀ d os, Calls Tryz.prog 161 #[.slice (some ⟨q, 0, none⟩) 6 6, .string tt] (grow (redrawn w d) os) fun e w'' => e = .returned (.bool (CC tt)) ∧ ∃ p : Regrown, w'' = grow (redrawn w p.d) p.os := fun d os => Calls.regrown_of ((CS tt _ (Butt.of_below h.fix.lt (below_regrown w d os))).mono (by rintro e w' ⟨rfl, rfl⟩; exact ⟨rfl, Below.refl _ _⟩))
  have KT := Lib.hid CT; have KS := Lib.hid CS2
  have g5 : ∀ d os, (grow (redrawn w d) os).cell? ⟨R, 5, none⟩ = some (.slice (some ⟨b, 0, none⟩) 8 8) := fun d os => cell_regrown c5 d os
  have g6 : ∀ d os, (grow (redrawn w d) os).cell? ⟨b, 7, none⟩ = some (.slice (some ⟨q, 0, none⟩) 6 6) := fun d os => cell_regrown hv d os
  have HH := Lib.hid h
  clear h CT CS CS2 hq' hq hl ht hqR hql hbR hbl
  go_enter Tryz.func143, Tryz.ntmps143
  go_wp2_with fail
  refine wp_region_quiet_below (by kernel_rfl) (by kernel_rfl) ?_
  quiet_step (fail)
  quiet_step (fail)
  quiet_step (fail)
  quiet_step (fail)
  quiet_step (fail)
  quiet_step (fail)
  quiet_step (fail)
  quiet_step (fail)
  quiet_step (fail)
  quiet_step (exact KT.out _ _)
  quiet_step (fail)
  quiet_step (exact KS.out _ _)
  quiet_step (fail)
  refine wpQuiet_nil ?_
  intro _ hw'
  obtain ⟨⟨dq, osq⟩, hw''⟩ := hw'
  subst hw''
  go_wp2
  go_ret
  exact ⟨rfl, HH.out.below (below_regrown w dq osq), Butt.of_below HH.out.fix.lt (below_regrown w dq osq)⟩
set_option maxRecDepth 20000 in
theorem pisOp4 {R : Nat} {L : List Tk} {d : Nat} {st : RSt} {w : World} (h : At R L w d st) :
    Calls Tryz.prog 143 #[.pointer (some ⟨R, 0, none⟩), .int .i64 4] w fun e w' => e = .returned (.bool (Lib.containsS (lvO 4) (cur L st).t)) ∧ At R L w' d st ∧ Butt R w w' := by
  obtain ⟨b, c5, hbR, hbl, hl⟩ := h.fix.levels
  obtain ⟨v, hv0, hop⟩ := (hl 4 (by decide)).2
  obtain ⟨q, rfl, hqR, hql, hq⟩ := hop.resolve_left (fun e => absurd e.1 (by simp [lvO]))
  have hv : w.cell? ⟨b, 9, none⟩ = some (.slice (some ⟨q, 0, none⟩) 2 2) := hv0
  clear hv0 hop
  have hq' : ∀ W, Butt R w W → ∀ j, j < (lvO 4).length → W.cell? ⟨q, 0 + j, none⟩ = some (.string ((lvO 4).getD j ByteArray.empty)) := fun W hb j hj => by
    rw [Nat.zero_add]; exact (hb.cell (p := ⟨q, j, none⟩) hql hqR).trans (hq j hj)
  have CS := fun (x : ByteArray) W (hb : Butt R w W) => Tryz.slices_Contains_string q 0 2 2 (lvO 4) x W (by decide) (by decide) (hq' W hb)
  have ht : (lvO 4).take 2 = lvO 4 := rfl
  rw [ht] at CS
  have hf := run_field_tok1
  have CT := fun d' os => Calls.regrown_of (stokenB (h.below (below_regrown w d' os)))
  generalize cur L st = T at *
  obtain ⟨tk, tt, ta⟩ := T
  unfold tkA at *
  dsimp only at *
  generalize Lib.containsS (lvO 4) = CC at *
  have CS2 : ∀ d os, Calls Tryz.prog 161 #[.slice (some ⟨q, 0, none⟩) 2 2, .string tt] (grow (redrawn w d) os) fun e w'' => e = .returned (.bool (CC tt)) ∧ ∃ p : Regrown, w'' = grow (redrawn w p.d) p.os := fun d os => Calls.regrown_of ((CS tt _ (Butt.of_below h.fix.lt (below_regrown w d os))).mono (by rintro e w' ⟨rfl, rfl⟩; exact ⟨rfl, Below.refl _ _⟩))
  have KT := Lib.hid CT; have KS := Lib.hid CS2
  have g5 : ∀ d os, (grow (redrawn w d) os).cell? ⟨R, 5, none⟩ = some (.slice (some ⟨b, 0, none⟩) 8 8) := fun d os => cell_regrown c5 d os
  have g6 : ∀ d os, (grow (redrawn w d) os).cell? ⟨b, 9, none⟩ = some (.slice (some ⟨q, 0, none⟩) 2 2) := fun d os => cell_regrown hv d os
  have HH := Lib.hid h
  clear h CT CS CS2 hq' hq hl ht hqR hql hbR hbl
  go_enter Tryz.func143, Tryz.ntmps143
  go_wp2_with fail
  refine wp_region_quiet_below (by kernel_rfl) (by kernel_rfl) ?_
  quiet_step (fail)
  quiet_step (fail)
  quiet_step (fail)
  quiet_step (fail)
  quiet_step (fail)
  quiet_step (fail)
  quiet_step (fail)
  quiet_step (fail)
  quiet_step (fail)
  quiet_step (exact KT.out _ _)
  quiet_step (fail)
  quiet_step (exact KS.out _ _)
  quiet_step (fail)
  refine wpQuiet_nil ?_
  intro _ hw'
  obtain ⟨⟨dq, osq⟩, hw''⟩ := hw'
  subst hw''
  go_wp2
  go_ret
  exact ⟨rfl, HH.out.below (below_regrown w dq osq), Butt.of_below HH.out.fix.lt (below_regrown w dq osq)⟩
set_option maxRecDepth 20000 in
theorem pisOp5 {R : Nat} {L : List Tk} {d : Nat} {st : RSt} {w : World} (h : At R L w d st) :
    Calls Tryz.prog 143 #[.pointer (some ⟨R, 0, none⟩), .int .i64 5] w fun e w' => e = .returned (.bool (Lib.containsS (lvO 5) (cur L st).t)) ∧ At R L w' d st ∧ Butt R w w' := by
  obtain ⟨b, c5, hbR, hbl, hl⟩ := h.fix.levels
  obtain ⟨v, hv0, hop⟩ := (hl 5 (by decide)).2
  obtain ⟨q, rfl, hqR, hql, hq⟩ := hop.resolve_left (fun e => absurd e.1 (by simp [lvO]))
  have hv : w.cell? ⟨b, 11, none⟩ = some (.slice (some ⟨q, 0, none⟩) 3 3) := hv0
  clear hv0 hop
  have hq' : ∀ W, Butt R w W → ∀ j, j < (lvO 5).length → W.cell? ⟨q, 0 + j, none⟩ = some (.string ((lvO 5).getD j ByteArray.empty)) := fun W hb j hj => by
    rw [Nat.zero_add]; exact (hb.cell (p := ⟨q, j, none⟩) hql hqR).trans (hq j hj)
  have CS := fun (x : ByteArray) W (hb : Butt R w W) => Tryz.slices_Contains_string q 0 3 3 (lvO 5) x W (by decide) (by decide) (hq' W hb)
  have ht : (lvO 5).take 3 = lvO 5 := rfl
  rw [ht] at CS
  have hf := run_field_tok1
  have CT := fun d' os => Calls.regrown_of (stokenB (h.below (below_regrown w d' os)))
  generalize cur L st = T at *
  obtain ⟨tk, tt, ta⟩ := T
  unfold tkA at *
  dsimp only at *
  generalize Lib.containsS (lvO 5) = CC at *
  have CS2 : ∀ d os, Calls Tryz.prog 161 #[.slice (some ⟨q, 0, none⟩) 3 3, .string tt] (grow (redrawn w d) os) fun e w'' => e = .returned (.bool (CC tt)) ∧ ∃ p : Regrown, w'' = grow (redrawn w p.d) p.os := fun d os => Calls.regrown_of ((CS tt _ (Butt.of_below h.fix.lt (below_regrown w d os))).mono (by rintro e w' ⟨rfl, rfl⟩; exact ⟨rfl, Below.refl _ _⟩))
  have KT := Lib.hid CT; have KS := Lib.hid CS2
  have g5 : ∀ d os, (grow (redrawn w d) os).cell? ⟨R, 5, none⟩ = some (.slice (some ⟨b, 0, none⟩) 8 8) := fun d os => cell_regrown c5 d os
  have g6 : ∀ d os, (grow (redrawn w d) os).cell? ⟨b, 11, none⟩ = some (.slice (some ⟨q, 0, none⟩) 3 3) := fun d os => cell_regrown hv d os
  have HH := Lib.hid h
  clear h CT CS CS2 hq' hq hl ht hqR hql hbR hbl
  go_enter Tryz.func143, Tryz.ntmps143
  go_wp2_with fail
  refine wp_region_quiet_below (by kernel_rfl) (by kernel_rfl) ?_
  quiet_step (fail)
  quiet_step (fail)
  quiet_step (fail)
  quiet_step (fail)
  quiet_step (fail)
  quiet_step (fail)
  quiet_step (fail)
  quiet_step (fail)
  quiet_step (fail)
  quiet_step (exact KT.out _ _)
  quiet_step (fail)
  quiet_step (exact KS.out _ _)
  quiet_step (fail)
  refine wpQuiet_nil ?_
  intro _ hw'
  obtain ⟨⟨dq, osq⟩, hw''⟩ := hw'
  subst hw''
  go_wp2
  go_ret
  exact ⟨rfl, HH.out.below (below_regrown w dq osq), Butt.of_below HH.out.fix.lt (below_regrown w dq osq)⟩
set_option maxRecDepth 20000 in
theorem pisOp6 {R : Nat} {L : List Tk} {d : Nat} {st : RSt} {w : World} (h : At R L w d st) :
    Calls Tryz.prog 143 #[.pointer (some ⟨R, 0, none⟩), .int .i64 6] w fun e w' => e = .returned (.bool (Lib.containsS (lvO 6) (cur L st).t)) ∧ At R L w' d st ∧ Butt R w w' := by
  obtain ⟨b, c5, hbR, hbl, hl⟩ := h.fix.levels
  obtain ⟨v, hv0, hop⟩ := (hl 6 (by decide)).2
  obtain ⟨q, rfl, hqR, hql, hq⟩ := hop.resolve_left (fun e => absurd e.1 (by simp [lvO]))
  have hv : w.cell? ⟨b, 13, none⟩ = some (.slice (some ⟨q, 0, none⟩) 1 1) := hv0
  clear hv0 hop
  have hq' : ∀ W, Butt R w W → ∀ j, j < (lvO 6).length → W.cell? ⟨q, 0 + j, none⟩ = some (.string ((lvO 6).getD j ByteArray.empty)) := fun W hb j hj => by
    rw [Nat.zero_add]; exact (hb.cell (p := ⟨q, j, none⟩) hql hqR).trans (hq j hj)
  have CS := fun (x : ByteArray) W (hb : Butt R w W) => Tryz.slices_Contains_string q 0 1 1 (lvO 6) x W (by decide) (by decide) (hq' W hb)
  have ht : (lvO 6).take 1 = lvO 6 := rfl
  rw [ht] at CS
  have hf := run_field_tok1
  have CT := fun d' os => Calls.regrown_of (stokenB (h.below (below_regrown w d' os)))
  generalize cur L st = T at *
  obtain ⟨tk, tt, ta⟩ := T
  unfold tkA at *
  dsimp only at *
  generalize Lib.containsS (lvO 6) = CC at *
  have CS2 : ∀ d os, Calls Tryz.prog 161 #[.slice (some ⟨q, 0, none⟩) 1 1, .string tt] (grow (redrawn w d) os) fun e w'' => e = .returned (.bool (CC tt)) ∧ ∃ p : Regrown, w'' = grow (redrawn w p.d) p.os := fun d os => Calls.regrown_of ((CS tt _ (Butt.of_below h.fix.lt (below_regrown w d os))).mono (by rintro e w' ⟨rfl, rfl⟩; exact ⟨rfl, Below.refl _ _⟩))
  have KT := Lib.hid CT; have KS := Lib.hid CS2
  have g5 : ∀ d os, (grow (redrawn w d) os).cell? ⟨R, 5, none⟩ = some (.slice (some ⟨b, 0, none⟩) 8 8) := fun d os => cell_regrown c5 d os
  have g6 : ∀ d os, (grow (redrawn w d) os).cell? ⟨b, 13, none⟩ = some (.slice (some ⟨q, 0, none⟩) 1 1) := fun d os => cell_regrown hv d os
  have HH := Lib.hid h
  clear h CT CS CS2 hq' hq hl ht hqR hql hbR hbl
  go_enter Tryz.func143, Tryz.ntmps143
  go_wp2_with fail
  refine wp_region_quiet_below (by kernel_rfl) (by kernel_rfl) ?_
  quiet_step (fail)
  quiet_step (fail)
  quiet_step (fail)
  quiet_step (fail)
  quiet_step (fail)
  quiet_step (fail)
  quiet_step (fail)
  quiet_step (fail)
  quiet_step (fail)
  quiet_step (exact KT.out _ _)
  quiet_step (fail)
  quiet_step (exact KS.out _ _)
  quiet_step (fail)
  refine wpQuiet_nil ?_
  intro _ hw'
  obtain ⟨⟨dq, osq⟩, hw''⟩ := hw'
  subst hw''
  go_wp2
  go_ret
  exact ⟨rfl, HH.out.below (below_regrown w dq osq), Butt.of_below HH.out.fix.lt (below_regrown w dq osq)⟩
theorem wrapB (z : Int) (h0 : 0 ≤ z) (h1 : z < 9223372036854775808) : IntKind.i64.wrap z = z ∧ wrap64 z = z := by
  constructor
  · rw [IntKind.wrap_i64]; omega
  · unfold wrap64; omega
def nextT (L : List Tk) (st : RSt) : ByteArray := (cur L (takeS st)).t
set_option maxRecDepth 20000 in
set_option maxHeartbeats 400000 in
theorem sfollowing {R : Nat} {L : List Tk} {d : Nat} {st : RSt} {w : World} (h : At R L w d st) :
    Calls Tryz.prog 147 #[.pointer (some ⟨R, 0, none⟩)] w fun e w' => e = .returned (.string (nextT L st)) ∧ At R L w' d st ∧ Butt R w w' := by
  have HH := Lib.hid h
  obtain ⟨hf, nx, a, er, h1, h2, h3⟩ := h
  have e1 : nextT L st = (tkD L (min (nx + 1) (L.length - 1))).t := by
    unfold nextT
    rw [cur_of (by omega) (take_of h1 h3)]
  rw [e1]
  have hlen := hf.toks.len
  obtain ⟨m, hm⟩ : ∃ m, L.length = m + 1 := ⟨L.length - 1, by omega⟩
  obtain ⟨n2, hn2, hn2m, hmin⟩ : ∃ n2 : Nat, min (nx + 1) (L.length - 1) = n2 ∧ n2 ≤ m ∧ min ((nx : Int) + 1) (m : Int) = (n2 : Int) := ⟨min (nx + 1) m, by rw [hm]; rfl, by omega, by omega⟩
  rw [hn2]
  obtain ⟨⟨b, o, c, r0, r1, r2, r3⟩, c1, -, -, -, -, -, c7⟩ := h2
  obtain ⟨b', o', e', hat⟩ := r1.at c7
  cases e'
  obtain ⟨-, d1, -⟩ := hat n2 (by omega) w (Below.refl _ _)
  rw [hm] at r0
  have gl : (n2 : Int) < (m : Int) + 1 := by omega
  have g0 : (0 : Int) ≤ (n2 : Int) := by omega
  obtain ⟨v1, u1⟩ := wrapB ((nx : Int) + 1) (by omega) (by omega)
  obtain ⟨v2, u2⟩ := wrapB (m : Int) (by omega) (by omega)
  generalize tkD L n2 = T at *
  obtain ⟨tk, tt, ta⟩ := T
  dsimp only at *
  have g5 : ∀ d os, (grow (redrawn w d) os).cell? ⟨R, 0, none⟩ = some (.slice (some ⟨b, o, none⟩) (m + 1) c) := fun d os => cell_regrown r0 d os
  have g6 : ∀ d os, (grow (redrawn w d) os).cell? ⟨R, 1, none⟩ = some (.int .i64 nx) := fun d os => cell_regrown c1 d os
  have g7 : ∀ d os, (grow (redrawn w d) os).cell? ⟨b, o + n2 * 3 + 1, none⟩ = some (.string tt) := fun d os => cell_regrown d1 d os
  clear hat r0 r1 c1 d1 c7 r2 r3 h3 h1 e1 hn2 hlen hm hf
  go_enter Tryz.func147, Tryz.ntmps147
  go_wp2_with fail
  refine wp_region_quiet_below (by kernel_rfl) (by kernel_rfl) ?_
  quiet_step (fail)
  quiet_step (fail)
  quiet_step (fail)
  quiet_step (fail)
  quiet_step (fail)
  quiet_step (fail)
  quiet_step (fail)
  quiet_step (fail)
  quiet_step (fail)
  quiet_step (fail)
  quiet_step (fail)
  quiet_step (fail)
  quiet_step (fail)
  quiet_step (fail)
  quiet_step (fail)
  quiet_step (fail)
  quiet_step (fail)
  quiet_step (fail)
  quiet_step (fail)
  quiet_step (fail)
  refine wpQuiet_nil ?_
  intro _ hw'
  obtain ⟨⟨dq, osq⟩, hw''⟩ := hw'
  subst hw''
  go_wp2
  go_ret
  exact ⟨rfl, HH.out.below (below_regrown w dq osq), Butt.of_below HH.out.fix.lt (below_regrown w dq osq)⟩
end Go.Proofs.YtdibcllakkjegaaGreatDoor
