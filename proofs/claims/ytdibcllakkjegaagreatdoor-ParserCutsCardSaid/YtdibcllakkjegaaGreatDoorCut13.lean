import Derived.Test.YtdibcllakkjegaaGreatDoorCut12

set_option linter.unusedVariables false
/-
  parser: repeated.
-/
set_option linter.unusedSimpArgs false
set_option linter.unusedVariables false
namespace Go.Proofs.YtdibcllakkjegaaGreatDoor
open Go Go.Proofs Go.RowKit Go.Sort
def remW (R : Nat) (L : List Tk) (W : World) : Nat := match W.cell? ⟨R, 1, none⟩ with
  | some (.int _ z) => L.length - z.toNat
  | _ => 0
theorem remW_ok {R d : Nat} {L l : List Tk} {W : World} (h : At R L W d (.ok l)) : remW R L W = l.length := by
  obtain ⟨hf, nx, a, er, h1, h2, h3⟩ := h
  rcases h3 with ⟨-, -, h3⟩ | ⟨-, -, h3⟩
  · cases h3
    unfold remW
    rw [h2.c1]
    simp
  · cases h3
theorem remW_le {R d : Nat} {L : List Tk} {W : World} {st : RSt} (h : At R L W d st) : remW R L W ≤ max 1 st.rem := by
  cases st with
  | ok l => rw [remW_ok h]; exact Nat.le_max_right _ _
  | bad a e =>
    obtain ⟨hf, nx, a, er, h1, h2, h3⟩ := h
    rcases h3 with ⟨-, -, h3⟩ | ⟨-, rfl, h3⟩
    · cases h3
    · unfold remW
      rw [h2.c1]
      simp only [Int.toNat_natCast]
      omega
theorem rem_less {L : List Tk} {st : RSt} (hL : TkL L) {R d : Nat} {W : World} (h : At R L W d st) (hb : (cur L st).t ≠ ⟨#[]⟩) : ∃ l, st = .ok l ∧ (takeS st).rem + 1 = l.length ∧ 2 ≤ l.length := by
  obtain ⟨hf, nx, a, er, h1, h2, h3⟩ := h
  have hc := cur_of h1 h3
  rcases h3 with ⟨-, -, rfl⟩ | ⟨-, rfl, rfl⟩
  · have hlt : nx + 1 < L.length := by
      refine Nat.lt_of_not_le fun e => hb ?_
      rw [hc, show nx = L.length - 1 by omega]
      exact hL.last.2
    refine ⟨_, rfl, ?_, by rw [List.length_drop]; omega⟩
    show (pTl (L.drop nx)).length + 1 = _
    rw [pTl_drop h1, List.length_drop, List.length_drop]
    omega
  · exact absurd hL.last.2 (by rw [← hc] at *; exact hb)
theorem op_text {i : Nat} {t : ByteArray} (h : Lib.containsS (lvO i) t = true) : t ≠ ⟨#[]⟩ := by
  rintro rfl
  rw [opB_eq] at h
  match i with
  | 0 | 1 | 2 | 3 | 4 | 5 | 6 => exact absurd h (by decide)
  | n + 7 => exact absurd h (by simp [pOps])
structure RepAt (R : Nat) (L : List Tk) (w : World) (d : Nat) (st : RSt) (i : Nat) (a0 : Int) (b6 : Nat) (wr : World) (s : RSt) (z : Syn) (k a n : Int) (t : ByteArray) (o : Option Addr) (l c : Nat) : Prop where
  hat : At R L wr d s
  hb : Butt R w wr
  xr : Bx5 wr w.heap.size (.int .i64 0) (.int .i64 0) (.string ⟨#[]⟩) (.int .i64 0) (.slice none 0 0)
  xl : Bx5 wr b6 (.int .i64 k) (.int .i64 a) (.string t) (.int .i64 n) (.slice o l c)
  tr : synIn (offs w.heap.size [b6, w.heap.size]) wr z (.agg #[.int .i64 k, .int .i64 a, .string t, .int .i64 n, .slice o l c])
  rem : s.rem ≤ st.rem
  go : ∀ ys s', Stp (.rep i a0 [z]) d s ys s' → Stp (.lvl i) d st ys s'
set_option maxRecDepth 20000 in
set_option maxHeartbeats 1000000 in
theorem prepeated0 {R : Nat} {L : List Tk} {d : Nat} {st : RSt} {w : World} (h : At R L w d st) (K : ∀ s : RSt, s.rem ≤ st.rem → GT 77 R L #[.pointer (some ⟨R, 0, none⟩), .int .i64 1] (.lvl 1) d s) :
    Calls Tryz.prog 118 #[.pointer (some ⟨R, 0, none⟩), .int .i64 0] w (PT R L (.lvl 0) d st w) := by
  have HTL := Lib.hid h.fix.toks
  have KL := Lib.hid K
  clear K
  have HA0 := Lib.hid h
  have HLT := Lib.hid h.fix.lt; have HRW := Lib.hid h.fix.lt
  have hA := h.alloc (Obj.cells #[.int .i64 0, .int .i64 0, .string ⟨#[]⟩, .int .i64 0, .slice none 0 0] 25)
  have hB := (Butt.refl R w).alloc h.fix.lt (Obj.cells #[.int .i64 0, .int .i64 0, .string ⟨#[]⟩, .int .i64 0, .slice none 0 0] 25)
  have hX := Bx5.new w (.int .i64 0) (.int .i64 0) (.string ⟨#[]⟩) (.int .i64 0) (.slice none 0 0)
  have hpR : w.heap.size ≠ R := fun e => absurd h.fix.lt (by rw [e]; exact Nat.lt_irrefl _)
  have hls : w.heap.size < (w.alloc (Obj.cells #[.int .i64 0, .int .i64 0, .string ⟨#[]⟩, .int .i64 0, .slice none 0 0] 25)).heap.size := by simp
  have A0 := Lib.hid hA; have B0 := Lib.hid hB; have XR0 := Lib.hid hX; have HPR := Lib.hid hpR; have HLS := Lib.hid hls
  clear hA hB hX hpR hls h 
  go_enter Tryz.func118, Tryz.ntmps118
  have CH := fun W (H : At R L W d st) => shere H
  have KH := Lib.hid CH; clear CH
  go_wp2_with (go_at_call 56; refine (KH.out _ A0.out).mono ?_; rintro e w1 ⟨rfl, ha1, hb1⟩; refine Hid.out ?_)
  have A1 := Lib.hid ha1; have B1 := Lib.hid (B0.out.trans hb1)
  have XR1 := Lib.hid (XR0.out.butt HPR.out hb1)
  clear ha1 hb1
  refine Lib.hid ?_
  go_wp2_with (go_at_call 77; refine (KL.out st (Nat.le_refl _) _ A1.out).mono ?_; rintro e w2 ⟨x2, v2, s2, rfl, hx2, hs2, ha2, hb2⟩; refine Hid.out ?_)
  obtain ⟨k2, a2, t2, n2, o2, l2, c2, q2, rfl, rfl, hk2⟩ := hx2.shape
  have HS2 := Lib.hid hs2
  have TR2 := Lib.hid (synIn.of (ps := [w.heap.size]) hx2 (Nat.le_trans (Nat.le_refl _) B1.out.size) (fun p hp => by simp only [List.mem_cons, List.not_mem_nil, or_false] at hp; have g0 := XR1.out.lt; omega))
  have A2 := Lib.hid ha2; have B2 := Lib.hid (B1.out.trans hb2)
  have XR2 := Lib.hid (XR1.out.butt HPR.out hb2)
  clear ha2 hb2 hx2 hk2 hs2
  refine Lib.hid ?_
  have TC := Lib.hid (TR2.out.cons (q := w2.heap.size) (Nat.le_refl _))
  have HR0 := Lib.hid (Run.rem HS2.out); have HG0 := Lib.hid (st_rep_start (L := L) (i := 0) (by omega) HS2.out)
  have A2a := Lib.hid (A2.out.alloc (Obj.cells #[.int .i64 k2, .int .i64 a2, .string t2, .int .i64 n2, .slice o2 l2 c2] 25)); have B2a := Lib.hid (B2.out.alloc HRW.out (Obj.cells #[.int .i64 k2, .int .i64 a2, .string t2, .int .i64 n2, .slice o2 l2 c2] 25))
  have XR2a := Lib.hid (XR2.out.alloc (Obj.cells #[.int .i64 k2, .int .i64 a2, .string t2, .int .i64 n2, .slice o2 l2 c2] 25))
  have TC2a := Lib.hid (TC.out.butt HLT.out (Butt.of_below A2.out.fix.lt ((Below.refl _ _).alloc (Nat.le_refl _) (Obj.cells #[.int .i64 k2, .int .i64 a2, .string t2, .int .i64 n2, .slice o2 l2 c2] 25))))
  have PXL : Hid (w2.heap.size ≠ R) := Lib.hid (fun e => absurd (A2.out.fix.lt) (by rw [e]; exact Nat.lt_irrefl _))
  have XL2a := Lib.hid (Bx5.new w2 (.int .i64 k2) (.int .i64 a2) (.string t2) (.int .i64 n2) (.slice o2 l2 c2))
  go_wp2_with fail
  have HLP : Hid (RepAt R L w d st 0 (cur L st).a w2.heap.size _ s2 _ k2 a2 n2 t2 o2 l2 c2) := Lib.hid ⟨A2a.out, B2a.out, XR2a.out, XL2a.out, TC2a.out, HR0.out, HG0.out⟩
  have HPL := PXL
  generalize w2.alloc (Obj.cells #[.int .i64 k2, .int .i64 a2, .string t2, .int .i64 n2, .slice o2 l2 c2] 25) = WB at *
  have H6P : Hid (w2.heap.size ≠ w.heap.size) := Lib.hid (fun e => by have := XR2.out.lt; omega)
  have HB6 : Hid (w.heap.size ≤ w2.heap.size) := Lib.hid B2.out.size
  generalize w2.heap.size = b6 at *
  go_loopw [] (fun wr => ∃ (s : RSt) (z : Syn) (k a n : Int) (t : ByteArray) (o : Option Addr) (l c : Nat), RepAt R L w d st 0 (cur L st).a b6 wr s z k a n t o l c) (fun wr => remW R L wr)
  case atStart => exact ⟨s2, _, k2, a2, n2, t2, o2, l2, c2, HLP.out⟩
  case round =>
    obtain ⟨s, z, k, a, n, t, o, l, c, hrel⟩ := hrel
    have CO := pisOp0 hrel.hat
    cases hb : Lib.containsS (lvO 0) (cur L s).t with
    | true =>
      rw [hb] at CO
      have KO := Lib.hid CO; have HBB := Lib.hid hb; have HR := Lib.hid hrel; clear CO hb
      have A0 := Lib.hid hrel.hat; have B0 := Lib.hid hrel.hb; have XR0 := Lib.hid hrel.xr; have XL0 := Lib.hid hrel.xl; have TZ := Lib.hid hrel.tr
      clear hrel
      go_wp2_with (go_at_call 143; refine (KO.out).mono ?_; rintro e w1 ⟨rfl, ha1, hb1⟩; refine Hid.out ?_)
      have A1 := Lib.hid ha1; have B1 := Lib.hid (B0.out.trans hb1)
      have XR1 := Lib.hid (XR0.out.butt HPR.out hb1)
      have XL1 := Lib.hid (XL0.out.butt HPL.out hb1)
      have TZ1 := Lib.hid (TZ.out.butt HLT.out hb1)
      clear ha1 hb1
      refine Lib.hid ?_
      have zXL := XL1.out
      have yXL0 := zXL.c0
      have yXL1 := zXL.c1
      have yXL2 := zXL.c2
      have yXL3 := zXL.c3
      have yXL4 := zXL.c4
      clear zXL
      have COP := poperation 0 w.heap.size (by decide) (cur L st).a A1.out ⟨HLT.out, B1.out.size⟩ [b6, w.heap.size] (fun p hp => by simp only [List.mem_cons, List.not_mem_nil, or_false] at hp; have g0 := XR1.out.lt; have g1 := XL1.out.lt; omega) (KL.out (takeS s) (Nat.le_trans (takeS_rem _) HR.out.rem)) k a n t o l c z TZ1.out
      have KOP := Lib.hid COP; clear COP
      go_wp2_with (go_at_call 144; refine (KOP.out).mono ?_; rintro e w2 ⟨y2, v2, s2, rfl, hx2, hs2, ha2, hb2⟩; refine Hid.out ?_)
      obtain ⟨k2, a2, t2, n2, o2, l2, c2, q2, hq2, rfl⟩ := hx2.shape
      have TR2 := Lib.hid hx2; have HS2 := Lib.hid hs2
      have A2 := Lib.hid ha2; have B2 := Lib.hid (B1.out.trans hb2)
      have XR2 := Lib.hid (XR1.out.butt HPR.out hb2)
      have XL2 := Lib.hid (XL1.out.butt HPL.out hb2)
      have TZ2 := Lib.hid (TZ1.out.butt HLT.out hb2)
      clear ha2 hb2 hx2 hs2
      refine Lib.hid ?_
      have FT := Lib.hid (store5 HA0.out B2.out A2.out XL2.out HB6.out (.int .i64 k2) (.int .i64 a2) (.string t2) (.int .i64 n2) (.slice o2 l2 c2) _ rfl)
      clear yXL0 yXL1 yXL2 yXL3 yXL4
      have zXL := XL2.out
      have yXL0 := zXL.c0
      have fXL0 := zXL.free 0
      have yXL1 := zXL.c1
      have fXL1 := zXL.free 1
      have yXL2 := zXL.c2
      have fXL2 := zXL.free 2
      have yXL3 := zXL.c3
      have fXL3 := zXL.free 3
      have yXL4 := zXL.c4
      have fXL4 := zXL.free 4
      clear zXL
      have hxr := XR2.out.kept (Ne.symm H6P.out) FT.out.2.2.2
      have htr := TR2.out.kept (q := b6) (by simp) FT.out.2.2.2
      have HNX : Hid (RepAt R L w d st 0 (cur L st).a b6 _ s2 _ k2 a2 n2 t2 o2 l2 c2) := Lib.hid ⟨FT.out.2.1, FT.out.2.2.1, hxr, FT.out.1, htr, Nat.le_trans (Run.rem HS2.out) (Nat.le_trans (takeS_rem _) HR.out.rem), fun ys s' hs => HR.out.go ys s' (st_rep_step HTL.out HBB.out HS2.out ys s' hs)⟩
      clear hxr htr
      go_wp2
      go_roundw
      case rel => exact ⟨s2, _, k2, a2, n2, t2, o2, l2, c2, HNX.out⟩
      case measure =>
        obtain ⟨l1, e1, e2, e3⟩ := rem_less HTL.out HR.out.hat (op_text HBB.out)
        have g1 := remW_ok (e1 ▸ HR.out.hat)
        have g2 := remW_le HNX.out.hat
        have g3 := Run.rem HS2.out
        rw [g1]
        omega
    | false =>
      rw [hb] at CO
      have KO := Lib.hid CO; have HBB := Lib.hid hb; have HR := Lib.hid hrel; clear CO hb
      have A0 := Lib.hid hrel.hat; have B0 := Lib.hid hrel.hb; have XR0 := Lib.hid hrel.xr; have XL0 := Lib.hid hrel.xl; have TZ := Lib.hid hrel.tr
      clear hrel
      go_wp2_with (go_at_call 143; refine (KO.out).mono ?_; rintro e w1 ⟨rfl, ha1, hb1⟩; refine Hid.out ?_)
      have A1 := Lib.hid ha1; have B1 := Lib.hid (B0.out.trans hb1)
      have XR1 := Lib.hid (XR0.out.butt HPR.out hb1)
      have XL1 := Lib.hid (XL0.out.butt HPL.out hb1)
      have TZ1 := Lib.hid (TZ.out.butt HLT.out hb1)
      clear ha1 hb1
      refine Lib.hid ?_
      have zXL := XL1.out
      have yXL0 := zXL.c0
      have yXL1 := zXL.c1
      have yXL2 := zXL.c2
      have yXL3 := zXL.c3
      have yXL4 := zXL.c4
      clear zXL
      have TR99 := TZ1
      have FT := Lib.hid (store5 HA0.out B1.out A1.out XR1.out (Nat.le_refl _) (.int .i64 k) (.int .i64 a) (.string t) (.int .i64 n) (.slice o l c) _ rfl)
      have GX := Lib.hid ((TZ1.out).kept (by simp) FT.out.2.2.2).at
      have zXR := XR1.out
      have yXR0 := zXR.c0
      have yXR1 := zXR.c1
      have yXR2 := zXR.c2
      have yXR3 := zXR.c3
      have yXR4 := zXR.c4
      have fXR0 := zXR.free 0
      have fXR1 := zXR.free 1
      have fXR2 := zXR.free 2
      have fXR3 := zXR.free 3
      have fXR4 := zXR.free 4
      clear zXR
      obtain ⟨r0, r1, r2, r3, r4⟩ := FT.out.1
      have GA := Lib.hid FT.out.2.1; have GB := Lib.hid FT.out.2.2.1
      clear FT
      go_wp2
      refine bodyPost_ret (by simp [results, Tryz.results118, go_sem, r0, r1, r2, r3, r4]; rfl) rfl ?_
      exact ⟨_, _, _, rfl, GX.out, HR.out.go _ _ (st_rep_end HR.out.hat.fine HBB.out), GA.out, GB.out⟩
set_option maxRecDepth 20000 in
set_option maxHeartbeats 1000000 in
theorem prepeated1 {R : Nat} {L : List Tk} {d : Nat} {st : RSt} {w : World} (h : At R L w d st) (K : ∀ s : RSt, s.rem ≤ st.rem → GT 77 R L #[.pointer (some ⟨R, 0, none⟩), .int .i64 2] (.lvl 2) d s) :
    Calls Tryz.prog 118 #[.pointer (some ⟨R, 0, none⟩), .int .i64 1] w (PT R L (.lvl 1) d st w) := by
  have HTL := Lib.hid h.fix.toks
  have KL := Lib.hid K
  clear K
  have HA0 := Lib.hid h
  have HLT := Lib.hid h.fix.lt; have HRW := Lib.hid h.fix.lt
  have hA := h.alloc (Obj.cells #[.int .i64 0, .int .i64 0, .string ⟨#[]⟩, .int .i64 0, .slice none 0 0] 25)
  have hB := (Butt.refl R w).alloc h.fix.lt (Obj.cells #[.int .i64 0, .int .i64 0, .string ⟨#[]⟩, .int .i64 0, .slice none 0 0] 25)
  have hX := Bx5.new w (.int .i64 0) (.int .i64 0) (.string ⟨#[]⟩) (.int .i64 0) (.slice none 0 0)
  have hpR : w.heap.size ≠ R := fun e => absurd h.fix.lt (by rw [e]; exact Nat.lt_irrefl _)
  have hls : w.heap.size < (w.alloc (Obj.cells #[.int .i64 0, .int .i64 0, .string ⟨#[]⟩, .int .i64 0, .slice none 0 0] 25)).heap.size := by simp
  have A0 := Lib.hid hA; have B0 := Lib.hid hB; have XR0 := Lib.hid hX; have HPR := Lib.hid hpR; have HLS := Lib.hid hls
  clear hA hB hX hpR hls h 
  go_enter Tryz.func118, Tryz.ntmps118
  have CH := fun W (H : At R L W d st) => shere H
  have KH := Lib.hid CH; clear CH
  go_wp2_with (go_at_call 56; refine (KH.out _ A0.out).mono ?_; rintro e w1 ⟨rfl, ha1, hb1⟩; refine Hid.out ?_)
  have A1 := Lib.hid ha1; have B1 := Lib.hid (B0.out.trans hb1)
  have XR1 := Lib.hid (XR0.out.butt HPR.out hb1)
  clear ha1 hb1
  refine Lib.hid ?_
  go_wp2_with (go_at_call 77; refine (KL.out st (Nat.le_refl _) _ A1.out).mono ?_; rintro e w2 ⟨x2, v2, s2, rfl, hx2, hs2, ha2, hb2⟩; refine Hid.out ?_)
  obtain ⟨k2, a2, t2, n2, o2, l2, c2, q2, rfl, rfl, hk2⟩ := hx2.shape
  have HS2 := Lib.hid hs2
  have TR2 := Lib.hid (synIn.of (ps := [w.heap.size]) hx2 (Nat.le_trans (Nat.le_refl _) B1.out.size) (fun p hp => by simp only [List.mem_cons, List.not_mem_nil, or_false] at hp; have g0 := XR1.out.lt; omega))
  have A2 := Lib.hid ha2; have B2 := Lib.hid (B1.out.trans hb2)
  have XR2 := Lib.hid (XR1.out.butt HPR.out hb2)
  clear ha2 hb2 hx2 hk2 hs2
  refine Lib.hid ?_
  have TC := Lib.hid (TR2.out.cons (q := w2.heap.size) (Nat.le_refl _))
  have HR0 := Lib.hid (Run.rem HS2.out); have HG0 := Lib.hid (st_rep_start (L := L) (i := 1) (by omega) HS2.out)
  have A2a := Lib.hid (A2.out.alloc (Obj.cells #[.int .i64 k2, .int .i64 a2, .string t2, .int .i64 n2, .slice o2 l2 c2] 25)); have B2a := Lib.hid (B2.out.alloc HRW.out (Obj.cells #[.int .i64 k2, .int .i64 a2, .string t2, .int .i64 n2, .slice o2 l2 c2] 25))
  have XR2a := Lib.hid (XR2.out.alloc (Obj.cells #[.int .i64 k2, .int .i64 a2, .string t2, .int .i64 n2, .slice o2 l2 c2] 25))
  have TC2a := Lib.hid (TC.out.butt HLT.out (Butt.of_below A2.out.fix.lt ((Below.refl _ _).alloc (Nat.le_refl _) (Obj.cells #[.int .i64 k2, .int .i64 a2, .string t2, .int .i64 n2, .slice o2 l2 c2] 25))))
  have PXL : Hid (w2.heap.size ≠ R) := Lib.hid (fun e => absurd (A2.out.fix.lt) (by rw [e]; exact Nat.lt_irrefl _))
  have XL2a := Lib.hid (Bx5.new w2 (.int .i64 k2) (.int .i64 a2) (.string t2) (.int .i64 n2) (.slice o2 l2 c2))
  go_wp2_with fail
  have HLP : Hid (RepAt R L w d st 1 (cur L st).a w2.heap.size _ s2 _ k2 a2 n2 t2 o2 l2 c2) := Lib.hid ⟨A2a.out, B2a.out, XR2a.out, XL2a.out, TC2a.out, HR0.out, HG0.out⟩
  have HPL := PXL
  generalize w2.alloc (Obj.cells #[.int .i64 k2, .int .i64 a2, .string t2, .int .i64 n2, .slice o2 l2 c2] 25) = WB at *
  have H6P : Hid (w2.heap.size ≠ w.heap.size) := Lib.hid (fun e => by have := XR2.out.lt; omega)
  have HB6 : Hid (w.heap.size ≤ w2.heap.size) := Lib.hid B2.out.size
  generalize w2.heap.size = b6 at *
  go_loopw [] (fun wr => ∃ (s : RSt) (z : Syn) (k a n : Int) (t : ByteArray) (o : Option Addr) (l c : Nat), RepAt R L w d st 1 (cur L st).a b6 wr s z k a n t o l c) (fun wr => remW R L wr)
  case atStart => exact ⟨s2, _, k2, a2, n2, t2, o2, l2, c2, HLP.out⟩
  case round =>
    obtain ⟨s, z, k, a, n, t, o, l, c, hrel⟩ := hrel
    have CO := pisOp1 hrel.hat
    cases hb : Lib.containsS (lvO 1) (cur L s).t with
    | true =>
      rw [hb] at CO
      have KO := Lib.hid CO; have HBB := Lib.hid hb; have HR := Lib.hid hrel; clear CO hb
      have A0 := Lib.hid hrel.hat; have B0 := Lib.hid hrel.hb; have XR0 := Lib.hid hrel.xr; have XL0 := Lib.hid hrel.xl; have TZ := Lib.hid hrel.tr
      clear hrel
      go_wp2_with (go_at_call 143; refine (KO.out).mono ?_; rintro e w1 ⟨rfl, ha1, hb1⟩; refine Hid.out ?_)
      have A1 := Lib.hid ha1; have B1 := Lib.hid (B0.out.trans hb1)
      have XR1 := Lib.hid (XR0.out.butt HPR.out hb1)
      have XL1 := Lib.hid (XL0.out.butt HPL.out hb1)
      have TZ1 := Lib.hid (TZ.out.butt HLT.out hb1)
      clear ha1 hb1
      refine Lib.hid ?_
      have zXL := XL1.out
      have yXL0 := zXL.c0
      have yXL1 := zXL.c1
      have yXL2 := zXL.c2
      have yXL3 := zXL.c3
      have yXL4 := zXL.c4
      clear zXL
      have COP := poperation 1 w.heap.size (by decide) (cur L st).a A1.out ⟨HLT.out, B1.out.size⟩ [b6, w.heap.size] (fun p hp => by simp only [List.mem_cons, List.not_mem_nil, or_false] at hp; have g0 := XR1.out.lt; have g1 := XL1.out.lt; omega) (KL.out (takeS s) (Nat.le_trans (takeS_rem _) HR.out.rem)) k a n t o l c z TZ1.out
      have KOP := Lib.hid COP; clear COP
      go_wp2_with (go_at_call 144; refine (KOP.out).mono ?_; rintro e w2 ⟨y2, v2, s2, rfl, hx2, hs2, ha2, hb2⟩; refine Hid.out ?_)
      obtain ⟨k2, a2, t2, n2, o2, l2, c2, q2, hq2, rfl⟩ := hx2.shape
      have TR2 := Lib.hid hx2; have HS2 := Lib.hid hs2
      have A2 := Lib.hid ha2; have B2 := Lib.hid (B1.out.trans hb2)
      have XR2 := Lib.hid (XR1.out.butt HPR.out hb2)
      have XL2 := Lib.hid (XL1.out.butt HPL.out hb2)
      have TZ2 := Lib.hid (TZ1.out.butt HLT.out hb2)
      clear ha2 hb2 hx2 hs2
      refine Lib.hid ?_
      have FT := Lib.hid (store5 HA0.out B2.out A2.out XL2.out HB6.out (.int .i64 k2) (.int .i64 a2) (.string t2) (.int .i64 n2) (.slice o2 l2 c2) _ rfl)
      clear yXL0 yXL1 yXL2 yXL3 yXL4
      have zXL := XL2.out
      have yXL0 := zXL.c0
      have fXL0 := zXL.free 0
      have yXL1 := zXL.c1
      have fXL1 := zXL.free 1
      have yXL2 := zXL.c2
      have fXL2 := zXL.free 2
      have yXL3 := zXL.c3
      have fXL3 := zXL.free 3
      have yXL4 := zXL.c4
      have fXL4 := zXL.free 4
      clear zXL
      have hxr := XR2.out.kept (Ne.symm H6P.out) FT.out.2.2.2
      have htr := TR2.out.kept (q := b6) (by simp) FT.out.2.2.2
      have HNX : Hid (RepAt R L w d st 1 (cur L st).a b6 _ s2 _ k2 a2 n2 t2 o2 l2 c2) := Lib.hid ⟨FT.out.2.1, FT.out.2.2.1, hxr, FT.out.1, htr, Nat.le_trans (Run.rem HS2.out) (Nat.le_trans (takeS_rem _) HR.out.rem), fun ys s' hs => HR.out.go ys s' (st_rep_step HTL.out HBB.out HS2.out ys s' hs)⟩
      clear hxr htr
      go_wp2
      go_roundw
      case rel => exact ⟨s2, _, k2, a2, n2, t2, o2, l2, c2, HNX.out⟩
      case measure =>
        obtain ⟨l1, e1, e2, e3⟩ := rem_less HTL.out HR.out.hat (op_text HBB.out)
        have g1 := remW_ok (e1 ▸ HR.out.hat)
        have g2 := remW_le HNX.out.hat
        have g3 := Run.rem HS2.out
        rw [g1]
        omega
    | false =>
      rw [hb] at CO
      have KO := Lib.hid CO; have HBB := Lib.hid hb; have HR := Lib.hid hrel; clear CO hb
      have A0 := Lib.hid hrel.hat; have B0 := Lib.hid hrel.hb; have XR0 := Lib.hid hrel.xr; have XL0 := Lib.hid hrel.xl; have TZ := Lib.hid hrel.tr
      clear hrel
      go_wp2_with (go_at_call 143; refine (KO.out).mono ?_; rintro e w1 ⟨rfl, ha1, hb1⟩; refine Hid.out ?_)
      have A1 := Lib.hid ha1; have B1 := Lib.hid (B0.out.trans hb1)
      have XR1 := Lib.hid (XR0.out.butt HPR.out hb1)
      have XL1 := Lib.hid (XL0.out.butt HPL.out hb1)
      have TZ1 := Lib.hid (TZ.out.butt HLT.out hb1)
      clear ha1 hb1
      refine Lib.hid ?_
      have zXL := XL1.out
      have yXL0 := zXL.c0
      have yXL1 := zXL.c1
      have yXL2 := zXL.c2
      have yXL3 := zXL.c3
      have yXL4 := zXL.c4
      clear zXL
      have TR99 := TZ1
      have FT := Lib.hid (store5 HA0.out B1.out A1.out XR1.out (Nat.le_refl _) (.int .i64 k) (.int .i64 a) (.string t) (.int .i64 n) (.slice o l c) _ rfl)
      have GX := Lib.hid ((TZ1.out).kept (by simp) FT.out.2.2.2).at
      have zXR := XR1.out
      have yXR0 := zXR.c0
      have yXR1 := zXR.c1
      have yXR2 := zXR.c2
      have yXR3 := zXR.c3
      have yXR4 := zXR.c4
      have fXR0 := zXR.free 0
      have fXR1 := zXR.free 1
      have fXR2 := zXR.free 2
      have fXR3 := zXR.free 3
      have fXR4 := zXR.free 4
      clear zXR
      obtain ⟨r0, r1, r2, r3, r4⟩ := FT.out.1
      have GA := Lib.hid FT.out.2.1; have GB := Lib.hid FT.out.2.2.1
      clear FT
      go_wp2
      refine bodyPost_ret (by simp [results, Tryz.results118, go_sem, r0, r1, r2, r3, r4]; rfl) rfl ?_
      exact ⟨_, _, _, rfl, GX.out, HR.out.go _ _ (st_rep_end HR.out.hat.fine HBB.out), GA.out, GB.out⟩
set_option maxRecDepth 20000 in
set_option maxHeartbeats 1000000 in
theorem prepeated4 {R : Nat} {L : List Tk} {d : Nat} {st : RSt} {w : World} (h : At R L w d st) (K : ∀ s : RSt, s.rem ≤ st.rem → GT 77 R L #[.pointer (some ⟨R, 0, none⟩), .int .i64 5] (.lvl 5) d s) :
    Calls Tryz.prog 118 #[.pointer (some ⟨R, 0, none⟩), .int .i64 4] w (PT R L (.lvl 4) d st w) := by
  have HTL := Lib.hid h.fix.toks
  have KL := Lib.hid K
  clear K
  have HA0 := Lib.hid h
  have HLT := Lib.hid h.fix.lt; have HRW := Lib.hid h.fix.lt
  have hA := h.alloc (Obj.cells #[.int .i64 0, .int .i64 0, .string ⟨#[]⟩, .int .i64 0, .slice none 0 0] 25)
  have hB := (Butt.refl R w).alloc h.fix.lt (Obj.cells #[.int .i64 0, .int .i64 0, .string ⟨#[]⟩, .int .i64 0, .slice none 0 0] 25)
  have hX := Bx5.new w (.int .i64 0) (.int .i64 0) (.string ⟨#[]⟩) (.int .i64 0) (.slice none 0 0)
  have hpR : w.heap.size ≠ R := fun e => absurd h.fix.lt (by rw [e]; exact Nat.lt_irrefl _)
  have hls : w.heap.size < (w.alloc (Obj.cells #[.int .i64 0, .int .i64 0, .string ⟨#[]⟩, .int .i64 0, .slice none 0 0] 25)).heap.size := by simp
  have A0 := Lib.hid hA; have B0 := Lib.hid hB; have XR0 := Lib.hid hX; have HPR := Lib.hid hpR; have HLS := Lib.hid hls
  clear hA hB hX hpR hls h 
  go_enter Tryz.func118, Tryz.ntmps118
  have CH := fun W (H : At R L W d st) => shere H
  have KH := Lib.hid CH; clear CH
  go_wp2_with (go_at_call 56; refine (KH.out _ A0.out).mono ?_; rintro e w1 ⟨rfl, ha1, hb1⟩; refine Hid.out ?_)
  have A1 := Lib.hid ha1; have B1 := Lib.hid (B0.out.trans hb1)
  have XR1 := Lib.hid (XR0.out.butt HPR.out hb1)
  clear ha1 hb1
  refine Lib.hid ?_
  go_wp2_with (go_at_call 77; refine (KL.out st (Nat.le_refl _) _ A1.out).mono ?_; rintro e w2 ⟨x2, v2, s2, rfl, hx2, hs2, ha2, hb2⟩; refine Hid.out ?_)
  obtain ⟨k2, a2, t2, n2, o2, l2, c2, q2, rfl, rfl, hk2⟩ := hx2.shape
  have HS2 := Lib.hid hs2
  have TR2 := Lib.hid (synIn.of (ps := [w.heap.size]) hx2 (Nat.le_trans (Nat.le_refl _) B1.out.size) (fun p hp => by simp only [List.mem_cons, List.not_mem_nil, or_false] at hp; have g0 := XR1.out.lt; omega))
  have A2 := Lib.hid ha2; have B2 := Lib.hid (B1.out.trans hb2)
  have XR2 := Lib.hid (XR1.out.butt HPR.out hb2)
  clear ha2 hb2 hx2 hk2 hs2
  refine Lib.hid ?_
  have TC := Lib.hid (TR2.out.cons (q := w2.heap.size) (Nat.le_refl _))
  have HR0 := Lib.hid (Run.rem HS2.out); have HG0 := Lib.hid (st_rep_start (L := L) (i := 4) (by omega) HS2.out)
  have A2a := Lib.hid (A2.out.alloc (Obj.cells #[.int .i64 k2, .int .i64 a2, .string t2, .int .i64 n2, .slice o2 l2 c2] 25)); have B2a := Lib.hid (B2.out.alloc HRW.out (Obj.cells #[.int .i64 k2, .int .i64 a2, .string t2, .int .i64 n2, .slice o2 l2 c2] 25))
  have XR2a := Lib.hid (XR2.out.alloc (Obj.cells #[.int .i64 k2, .int .i64 a2, .string t2, .int .i64 n2, .slice o2 l2 c2] 25))
  have TC2a := Lib.hid (TC.out.butt HLT.out (Butt.of_below A2.out.fix.lt ((Below.refl _ _).alloc (Nat.le_refl _) (Obj.cells #[.int .i64 k2, .int .i64 a2, .string t2, .int .i64 n2, .slice o2 l2 c2] 25))))
  have PXL : Hid (w2.heap.size ≠ R) := Lib.hid (fun e => absurd (A2.out.fix.lt) (by rw [e]; exact Nat.lt_irrefl _))
  have XL2a := Lib.hid (Bx5.new w2 (.int .i64 k2) (.int .i64 a2) (.string t2) (.int .i64 n2) (.slice o2 l2 c2))
  go_wp2_with fail
  have HLP : Hid (RepAt R L w d st 4 (cur L st).a w2.heap.size _ s2 _ k2 a2 n2 t2 o2 l2 c2) := Lib.hid ⟨A2a.out, B2a.out, XR2a.out, XL2a.out, TC2a.out, HR0.out, HG0.out⟩
  have HPL := PXL
  generalize w2.alloc (Obj.cells #[.int .i64 k2, .int .i64 a2, .string t2, .int .i64 n2, .slice o2 l2 c2] 25) = WB at *
  have H6P : Hid (w2.heap.size ≠ w.heap.size) := Lib.hid (fun e => by have := XR2.out.lt; omega)
  have HB6 : Hid (w.heap.size ≤ w2.heap.size) := Lib.hid B2.out.size
  generalize w2.heap.size = b6 at *
  go_loopw [] (fun wr => ∃ (s : RSt) (z : Syn) (k a n : Int) (t : ByteArray) (o : Option Addr) (l c : Nat), RepAt R L w d st 4 (cur L st).a b6 wr s z k a n t o l c) (fun wr => remW R L wr)
  case atStart => exact ⟨s2, _, k2, a2, n2, t2, o2, l2, c2, HLP.out⟩
  case round =>
    obtain ⟨s, z, k, a, n, t, o, l, c, hrel⟩ := hrel
    have CO := pisOp4 hrel.hat
    cases hb : Lib.containsS (lvO 4) (cur L s).t with
    | true =>
      rw [hb] at CO
      have KO := Lib.hid CO; have HBB := Lib.hid hb; have HR := Lib.hid hrel; clear CO hb
      have A0 := Lib.hid hrel.hat; have B0 := Lib.hid hrel.hb; have XR0 := Lib.hid hrel.xr; have XL0 := Lib.hid hrel.xl; have TZ := Lib.hid hrel.tr
      clear hrel
      go_wp2_with (go_at_call 143; refine (KO.out).mono ?_; rintro e w1 ⟨rfl, ha1, hb1⟩; refine Hid.out ?_)
      have A1 := Lib.hid ha1; have B1 := Lib.hid (B0.out.trans hb1)
      have XR1 := Lib.hid (XR0.out.butt HPR.out hb1)
      have XL1 := Lib.hid (XL0.out.butt HPL.out hb1)
      have TZ1 := Lib.hid (TZ.out.butt HLT.out hb1)
      clear ha1 hb1
      refine Lib.hid ?_
      have zXL := XL1.out
      have yXL0 := zXL.c0
      have yXL1 := zXL.c1
      have yXL2 := zXL.c2
      have yXL3 := zXL.c3
      have yXL4 := zXL.c4
      clear zXL
      have COP := poperation 4 w.heap.size (by decide) (cur L st).a A1.out ⟨HLT.out, B1.out.size⟩ [b6, w.heap.size] (fun p hp => by simp only [List.mem_cons, List.not_mem_nil, or_false] at hp; have g0 := XR1.out.lt; have g1 := XL1.out.lt; omega) (KL.out (takeS s) (Nat.le_trans (takeS_rem _) HR.out.rem)) k a n t o l c z TZ1.out
      have KOP := Lib.hid COP; clear COP
      go_wp2_with (go_at_call 144; refine (KOP.out).mono ?_; rintro e w2 ⟨y2, v2, s2, rfl, hx2, hs2, ha2, hb2⟩; refine Hid.out ?_)
      obtain ⟨k2, a2, t2, n2, o2, l2, c2, q2, hq2, rfl⟩ := hx2.shape
      have TR2 := Lib.hid hx2; have HS2 := Lib.hid hs2
      have A2 := Lib.hid ha2; have B2 := Lib.hid (B1.out.trans hb2)
      have XR2 := Lib.hid (XR1.out.butt HPR.out hb2)
      have XL2 := Lib.hid (XL1.out.butt HPL.out hb2)
      have TZ2 := Lib.hid (TZ1.out.butt HLT.out hb2)
      clear ha2 hb2 hx2 hs2
      refine Lib.hid ?_
      have FT := Lib.hid (store5 HA0.out B2.out A2.out XL2.out HB6.out (.int .i64 k2) (.int .i64 a2) (.string t2) (.int .i64 n2) (.slice o2 l2 c2) _ rfl)
      clear yXL0 yXL1 yXL2 yXL3 yXL4
      have zXL := XL2.out
      have yXL0 := zXL.c0
      have fXL0 := zXL.free 0
      have yXL1 := zXL.c1
      have fXL1 := zXL.free 1
      have yXL2 := zXL.c2
      have fXL2 := zXL.free 2
      have yXL3 := zXL.c3
      have fXL3 := zXL.free 3
      have yXL4 := zXL.c4
      have fXL4 := zXL.free 4
      clear zXL
      have hxr := XR2.out.kept (Ne.symm H6P.out) FT.out.2.2.2
      have htr := TR2.out.kept (q := b6) (by simp) FT.out.2.2.2
      have HNX : Hid (RepAt R L w d st 4 (cur L st).a b6 _ s2 _ k2 a2 n2 t2 o2 l2 c2) := Lib.hid ⟨FT.out.2.1, FT.out.2.2.1, hxr, FT.out.1, htr, Nat.le_trans (Run.rem HS2.out) (Nat.le_trans (takeS_rem _) HR.out.rem), fun ys s' hs => HR.out.go ys s' (st_rep_step HTL.out HBB.out HS2.out ys s' hs)⟩
      clear hxr htr
      go_wp2
      go_roundw
      case rel => exact ⟨s2, _, k2, a2, n2, t2, o2, l2, c2, HNX.out⟩
      case measure =>
        obtain ⟨l1, e1, e2, e3⟩ := rem_less HTL.out HR.out.hat (op_text HBB.out)
        have g1 := remW_ok (e1 ▸ HR.out.hat)
        have g2 := remW_le HNX.out.hat
        have g3 := Run.rem HS2.out
        rw [g1]
        omega
    | false =>
      rw [hb] at CO
      have KO := Lib.hid CO; have HBB := Lib.hid hb; have HR := Lib.hid hrel; clear CO hb
      have A0 := Lib.hid hrel.hat; have B0 := Lib.hid hrel.hb; have XR0 := Lib.hid hrel.xr; have XL0 := Lib.hid hrel.xl; have TZ := Lib.hid hrel.tr
      clear hrel
      go_wp2_with (go_at_call 143; refine (KO.out).mono ?_; rintro e w1 ⟨rfl, ha1, hb1⟩; refine Hid.out ?_)
      have A1 := Lib.hid ha1; have B1 := Lib.hid (B0.out.trans hb1)
      have XR1 := Lib.hid (XR0.out.butt HPR.out hb1)
      have XL1 := Lib.hid (XL0.out.butt HPL.out hb1)
      have TZ1 := Lib.hid (TZ.out.butt HLT.out hb1)
      clear ha1 hb1
      refine Lib.hid ?_
      have zXL := XL1.out
      have yXL0 := zXL.c0
      have yXL1 := zXL.c1
      have yXL2 := zXL.c2
      have yXL3 := zXL.c3
      have yXL4 := zXL.c4
      clear zXL
      have TR99 := TZ1
      have FT := Lib.hid (store5 HA0.out B1.out A1.out XR1.out (Nat.le_refl _) (.int .i64 k) (.int .i64 a) (.string t) (.int .i64 n) (.slice o l c) _ rfl)
      have GX := Lib.hid ((TZ1.out).kept (by simp) FT.out.2.2.2).at
      have zXR := XR1.out
      have yXR0 := zXR.c0
      have yXR1 := zXR.c1
      have yXR2 := zXR.c2
      have yXR3 := zXR.c3
      have yXR4 := zXR.c4
      have fXR0 := zXR.free 0
      have fXR1 := zXR.free 1
      have fXR2 := zXR.free 2
      have fXR3 := zXR.free 3
      have fXR4 := zXR.free 4
      clear zXR
      obtain ⟨r0, r1, r2, r3, r4⟩ := FT.out.1
      have GA := Lib.hid FT.out.2.1; have GB := Lib.hid FT.out.2.2.1
      clear FT
      go_wp2
      refine bodyPost_ret (by simp [results, Tryz.results118, go_sem, r0, r1, r2, r3, r4]; rfl) rfl ?_
      exact ⟨_, _, _, rfl, GX.out, HR.out.go _ _ (st_rep_end HR.out.hat.fine HBB.out), GA.out, GB.out⟩
set_option maxRecDepth 20000 in
set_option maxHeartbeats 1000000 in
theorem prepeated5 {R : Nat} {L : List Tk} {d : Nat} {st : RSt} {w : World} (h : At R L w d st) (K : ∀ s : RSt, s.rem ≤ st.rem → GT 77 R L #[.pointer (some ⟨R, 0, none⟩), .int .i64 6] (.lvl 6) d s) :
    Calls Tryz.prog 118 #[.pointer (some ⟨R, 0, none⟩), .int .i64 5] w (PT R L (.lvl 5) d st w) := by
  have HTL := Lib.hid h.fix.toks
  have KL := Lib.hid K
  clear K
  have HA0 := Lib.hid h
  have HLT := Lib.hid h.fix.lt; have HRW := Lib.hid h.fix.lt
  have hA := h.alloc (Obj.cells #[.int .i64 0, .int .i64 0, .string ⟨#[]⟩, .int .i64 0, .slice none 0 0] 25)
  have hB := (Butt.refl R w).alloc h.fix.lt (Obj.cells #[.int .i64 0, .int .i64 0, .string ⟨#[]⟩, .int .i64 0, .slice none 0 0] 25)
  have hX := Bx5.new w (.int .i64 0) (.int .i64 0) (.string ⟨#[]⟩) (.int .i64 0) (.slice none 0 0)
  have hpR : w.heap.size ≠ R := fun e => absurd h.fix.lt (by rw [e]; exact Nat.lt_irrefl _)
  have hls : w.heap.size < (w.alloc (Obj.cells #[.int .i64 0, .int .i64 0, .string ⟨#[]⟩, .int .i64 0, .slice none 0 0] 25)).heap.size := by simp
  have A0 := Lib.hid hA; have B0 := Lib.hid hB; have XR0 := Lib.hid hX; have HPR := Lib.hid hpR; have HLS := Lib.hid hls
  clear hA hB hX hpR hls h 
  go_enter Tryz.func118, Tryz.ntmps118
  have CH := fun W (H : At R L W d st) => shere H
  have KH := Lib.hid CH; clear CH
  go_wp2_with (go_at_call 56; refine (KH.out _ A0.out).mono ?_; rintro e w1 ⟨rfl, ha1, hb1⟩; refine Hid.out ?_)
  have A1 := Lib.hid ha1; have B1 := Lib.hid (B0.out.trans hb1)
  have XR1 := Lib.hid (XR0.out.butt HPR.out hb1)
  clear ha1 hb1
  refine Lib.hid ?_
  go_wp2_with (go_at_call 77; refine (KL.out st (Nat.le_refl _) _ A1.out).mono ?_; rintro e w2 ⟨x2, v2, s2, rfl, hx2, hs2, ha2, hb2⟩; refine Hid.out ?_)
  obtain ⟨k2, a2, t2, n2, o2, l2, c2, q2, rfl, rfl, hk2⟩ := hx2.shape
  have HS2 := Lib.hid hs2
  have TR2 := Lib.hid (synIn.of (ps := [w.heap.size]) hx2 (Nat.le_trans (Nat.le_refl _) B1.out.size) (fun p hp => by simp only [List.mem_cons, List.not_mem_nil, or_false] at hp; have g0 := XR1.out.lt; omega))
  have A2 := Lib.hid ha2; have B2 := Lib.hid (B1.out.trans hb2)
  have XR2 := Lib.hid (XR1.out.butt HPR.out hb2)
  clear ha2 hb2 hx2 hk2 hs2
  refine Lib.hid ?_
  have TC := Lib.hid (TR2.out.cons (q := w2.heap.size) (Nat.le_refl _))
  have HR0 := Lib.hid (Run.rem HS2.out); have HG0 := Lib.hid (st_rep_start (L := L) (i := 5) (by omega) HS2.out)
  have A2a := Lib.hid (A2.out.alloc (Obj.cells #[.int .i64 k2, .int .i64 a2, .string t2, .int .i64 n2, .slice o2 l2 c2] 25)); have B2a := Lib.hid (B2.out.alloc HRW.out (Obj.cells #[.int .i64 k2, .int .i64 a2, .string t2, .int .i64 n2, .slice o2 l2 c2] 25))
  have XR2a := Lib.hid (XR2.out.alloc (Obj.cells #[.int .i64 k2, .int .i64 a2, .string t2, .int .i64 n2, .slice o2 l2 c2] 25))
  have TC2a := Lib.hid (TC.out.butt HLT.out (Butt.of_below A2.out.fix.lt ((Below.refl _ _).alloc (Nat.le_refl _) (Obj.cells #[.int .i64 k2, .int .i64 a2, .string t2, .int .i64 n2, .slice o2 l2 c2] 25))))
  have PXL : Hid (w2.heap.size ≠ R) := Lib.hid (fun e => absurd (A2.out.fix.lt) (by rw [e]; exact Nat.lt_irrefl _))
  have XL2a := Lib.hid (Bx5.new w2 (.int .i64 k2) (.int .i64 a2) (.string t2) (.int .i64 n2) (.slice o2 l2 c2))
  go_wp2_with fail
  have HLP : Hid (RepAt R L w d st 5 (cur L st).a w2.heap.size _ s2 _ k2 a2 n2 t2 o2 l2 c2) := Lib.hid ⟨A2a.out, B2a.out, XR2a.out, XL2a.out, TC2a.out, HR0.out, HG0.out⟩
  have HPL := PXL
  generalize w2.alloc (Obj.cells #[.int .i64 k2, .int .i64 a2, .string t2, .int .i64 n2, .slice o2 l2 c2] 25) = WB at *
  have H6P : Hid (w2.heap.size ≠ w.heap.size) := Lib.hid (fun e => by have := XR2.out.lt; omega)
  have HB6 : Hid (w.heap.size ≤ w2.heap.size) := Lib.hid B2.out.size
  generalize w2.heap.size = b6 at *
  go_loopw [] (fun wr => ∃ (s : RSt) (z : Syn) (k a n : Int) (t : ByteArray) (o : Option Addr) (l c : Nat), RepAt R L w d st 5 (cur L st).a b6 wr s z k a n t o l c) (fun wr => remW R L wr)
  case atStart => exact ⟨s2, _, k2, a2, n2, t2, o2, l2, c2, HLP.out⟩
  case round =>
    obtain ⟨s, z, k, a, n, t, o, l, c, hrel⟩ := hrel
    have CO := pisOp5 hrel.hat
    cases hb : Lib.containsS (lvO 5) (cur L s).t with
    | true =>
      rw [hb] at CO
      have KO := Lib.hid CO; have HBB := Lib.hid hb; have HR := Lib.hid hrel; clear CO hb
      have A0 := Lib.hid hrel.hat; have B0 := Lib.hid hrel.hb; have XR0 := Lib.hid hrel.xr; have XL0 := Lib.hid hrel.xl; have TZ := Lib.hid hrel.tr
      clear hrel
      go_wp2_with (go_at_call 143; refine (KO.out).mono ?_; rintro e w1 ⟨rfl, ha1, hb1⟩; refine Hid.out ?_)
      have A1 := Lib.hid ha1; have B1 := Lib.hid (B0.out.trans hb1)
      have XR1 := Lib.hid (XR0.out.butt HPR.out hb1)
      have XL1 := Lib.hid (XL0.out.butt HPL.out hb1)
      have TZ1 := Lib.hid (TZ.out.butt HLT.out hb1)
      clear ha1 hb1
      refine Lib.hid ?_
      have zXL := XL1.out
      have yXL0 := zXL.c0
      have yXL1 := zXL.c1
      have yXL2 := zXL.c2
      have yXL3 := zXL.c3
      have yXL4 := zXL.c4
      clear zXL
      have COP := poperation 5 w.heap.size (by decide) (cur L st).a A1.out ⟨HLT.out, B1.out.size⟩ [b6, w.heap.size] (fun p hp => by simp only [List.mem_cons, List.not_mem_nil, or_false] at hp; have g0 := XR1.out.lt; have g1 := XL1.out.lt; omega) (KL.out (takeS s) (Nat.le_trans (takeS_rem _) HR.out.rem)) k a n t o l c z TZ1.out
      have KOP := Lib.hid COP; clear COP
      go_wp2_with (go_at_call 144; refine (KOP.out).mono ?_; rintro e w2 ⟨y2, v2, s2, rfl, hx2, hs2, ha2, hb2⟩; refine Hid.out ?_)
      obtain ⟨k2, a2, t2, n2, o2, l2, c2, q2, hq2, rfl⟩ := hx2.shape
      have TR2 := Lib.hid hx2; have HS2 := Lib.hid hs2
      have A2 := Lib.hid ha2; have B2 := Lib.hid (B1.out.trans hb2)
      have XR2 := Lib.hid (XR1.out.butt HPR.out hb2)
      have XL2 := Lib.hid (XL1.out.butt HPL.out hb2)
      have TZ2 := Lib.hid (TZ1.out.butt HLT.out hb2)
      clear ha2 hb2 hx2 hs2
      refine Lib.hid ?_
      have FT := Lib.hid (store5 HA0.out B2.out A2.out XL2.out HB6.out (.int .i64 k2) (.int .i64 a2) (.string t2) (.int .i64 n2) (.slice o2 l2 c2) _ rfl)
      clear yXL0 yXL1 yXL2 yXL3 yXL4
      have zXL := XL2.out
      have yXL0 := zXL.c0
      have fXL0 := zXL.free 0
      have yXL1 := zXL.c1
      have fXL1 := zXL.free 1
      have yXL2 := zXL.c2
      have fXL2 := zXL.free 2
      have yXL3 := zXL.c3
      have fXL3 := zXL.free 3
      have yXL4 := zXL.c4
      have fXL4 := zXL.free 4
      clear zXL
      have hxr := XR2.out.kept (Ne.symm H6P.out) FT.out.2.2.2
      have htr := TR2.out.kept (q := b6) (by simp) FT.out.2.2.2
      have HNX : Hid (RepAt R L w d st 5 (cur L st).a b6 _ s2 _ k2 a2 n2 t2 o2 l2 c2) := Lib.hid ⟨FT.out.2.1, FT.out.2.2.1, hxr, FT.out.1, htr, Nat.le_trans (Run.rem HS2.out) (Nat.le_trans (takeS_rem _) HR.out.rem), fun ys s' hs => HR.out.go ys s' (st_rep_step HTL.out HBB.out HS2.out ys s' hs)⟩
      clear hxr htr
      go_wp2
      go_roundw
      case rel => exact ⟨s2, _, k2, a2, n2, t2, o2, l2, c2, HNX.out⟩
      case measure =>
        obtain ⟨l1, e1, e2, e3⟩ := rem_less HTL.out HR.out.hat (op_text HBB.out)
        have g1 := remW_ok (e1 ▸ HR.out.hat)
        have g2 := remW_le HNX.out.hat
        have g3 := Run.rem HS2.out
        rw [g1]
        omega
    | false =>
      rw [hb] at CO
      have KO := Lib.hid CO; have HBB := Lib.hid hb; have HR := Lib.hid hrel; clear CO hb
      have A0 := Lib.hid hrel.hat; have B0 := Lib.hid hrel.hb; have XR0 := Lib.hid hrel.xr; have XL0 := Lib.hid hrel.xl; have TZ := Lib.hid hrel.tr
      clear hrel
      go_wp2_with (go_at_call 143; refine (KO.out).mono ?_; rintro e w1 ⟨rfl, ha1, hb1⟩; refine Hid.out ?_)
      have A1 := Lib.hid ha1; have B1 := Lib.hid (B0.out.trans hb1)
      have XR1 := Lib.hid (XR0.out.butt HPR.out hb1)
      have XL1 := Lib.hid (XL0.out.butt HPL.out hb1)
      have TZ1 := Lib.hid (TZ.out.butt HLT.out hb1)
      clear ha1 hb1
      refine Lib.hid ?_
      have zXL := XL1.out
      have yXL0 := zXL.c0
      have yXL1 := zXL.c1
      have yXL2 := zXL.c2
      have yXL3 := zXL.c3
      have yXL4 := zXL.c4
      clear zXL
      have TR99 := TZ1
      have FT := Lib.hid (store5 HA0.out B1.out A1.out XR1.out (Nat.le_refl _) (.int .i64 k) (.int .i64 a) (.string t) (.int .i64 n) (.slice o l c) _ rfl)
      have GX := Lib.hid ((TZ1.out).kept (by simp) FT.out.2.2.2).at
      have zXR := XR1.out
      have yXR0 := zXR.c0
      have yXR1 := zXR.c1
      have yXR2 := zXR.c2
      have yXR3 := zXR.c3
      have yXR4 := zXR.c4
      have fXR0 := zXR.free 0
      have fXR1 := zXR.free 1
      have fXR2 := zXR.free 2
      have fXR3 := zXR.free 3
      have fXR4 := zXR.free 4
      clear zXR
      obtain ⟨r0, r1, r2, r3, r4⟩ := FT.out.1
      have GA := Lib.hid FT.out.2.1; have GB := Lib.hid FT.out.2.2.1
      clear FT
      go_wp2
      refine bodyPost_ret (by simp [results, Tryz.results118, go_sem, r0, r1, r2, r3, r4]; rfl) rfl ?_
      exact ⟨_, _, _, rfl, GX.out, HR.out.go _ _ (st_rep_end HR.out.hat.fine HBB.out), GA.out, GB.out⟩
end Go.Proofs.YtdibcllakkjegaaGreatDoor
