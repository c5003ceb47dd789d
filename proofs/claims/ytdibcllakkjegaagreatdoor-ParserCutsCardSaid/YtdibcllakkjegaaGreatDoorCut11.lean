import Derived.Test.YtdibcllakkjegaaGreatDoorCut10

set_option linter.unusedVariables false
/-
  parser: compared, prefixed, unit.
-/
set_option linter.unusedSimpArgs false
set_option linter.unusedVariables false
namespace Go.Proofs.YtdibcllakkjegaaGreatDoor
open Go Go.Proofs Go.RowKit Go.Sort
theorem Run.rem {α : Type} {m : Nat → List Tk → Except (Int × Nat) (α × List Tk)} {st st' : RSt} {x : α} (h : Run m st x st') : st'.rem ≤ st.rem := by
  cases st with
  | bad a e => rw [show st' = .bad a e from h]; exact Nat.le_refl _
  | ok l =>
    rcases h with ⟨l', rfl, -, h, -⟩ | ⟨a, e, -, rfl, -⟩
    · exact h
    · exact Nat.zero_le _
theorem takeS_rem (st : RSt) : (takeS st).rem ≤ st.rem := by
  cases st with
  | bad a e => exact Nat.le_refl _
  | ok l => exact pTl_len l
theorem tIs_self (L : List Tk) (st : RSt) : tIs L st (cur L st).t = true := by unfold tIs; exact beq_self_eq_true _
theorem tokM_true (L : List Tk) (st : RSt) : tokM L st true = cur L st := rfl
set_option maxRecDepth 20000 in
set_option maxHeartbeats 1000000 in
theorem pcompared {R : Nat} {L : List Tk} {d : Nat} {st : RSt} {w : World} (h : At R L w d st) (K : ∀ s : RSt, s.rem ≤ st.rem → GT 77 R L #[.pointer (some ⟨R, 0, none⟩), .int .i64 4] (.lvl 4) d s) :
    Calls Tryz.prog 120 #[.pointer (some ⟨R, 0, none⟩), .int .i64 3] w (PT R L (.lvl 3) d st w) := by
  have HTL := Lib.hid h.fix.toks
  have KL := Lib.hid K
  clear K
  have HA0 := Lib.hid h
  have HLT := Lib.hid h.fix.lt; have HRW := Lib.hid h.fix.lt
  have hA := h.alloc (Obj.cells #[.int .i64 0, .int .i64 0, .string ⟨#[]⟩, .int .i64 0, .slice none 0 0] 25)
  have hB := (Butt.refl R w).alloc h.fix.lt (Obj.cells #[.int .i64 0, .int .i64 0, .string ⟨#[]⟩, .int .i64 0, .slice none 0 0] 25)
  have hX := Bx5.new w (.int .i64 0) (.int .i64 0) (.string ⟨#[]⟩) (.int .i64 0) (.slice none 0 0)
  have hpR : w.heap.size ≠ R := fun e => absurd h.fix.lt (by rw [e]; exact Nat.lt_irrefl _)
  have hls : w.heap.size < (w.alloc (Obj.cells #[.int .i64 0, .int .i64 0, .string ⟨#[]⟩, .int .i64 0, .slice none 0 0] 25)).heap.size := by simp
  have A0 := Lib.hid hA; have B0 := Lib.hid hB; have XR0 := Lib.hid hX; have HPR := Lib.hid hpR; have HLS := Lib.hid hls
  clear hA hB hX hpR hls h 
  go_enter Tryz.func120, Tryz.ntmps120
  have CH := fun W (H : At R L W d st) => shere H
  have KH := Lib.hid CH; clear CH
  go_wp2_with (go_at_call 56; refine (KH.out _ A0.out).mono ?_; rintro e w1 ⟨rfl, ha1, hb1⟩; refine Hid.out ?_)
  have A1 := Lib.hid ha1; have B1 := Lib.hid (B0.out.trans hb1)
  have XR1 := Lib.hid (XR0.out.butt HPR.out hb1)
  clear ha1 hb1
  refine Lib.hid ?_
  go_wp2_with (go_at_call 77; refine (KL.out st (Nat.le_refl _) _ A1.out).mono ?_; rintro e w2 ⟨x2, v2, s2, rfl, hx2, hs2, ha2, hb2⟩; refine Hid.out ?_)
  obtain ⟨k2, a2, t2, n2, o2, l2, c2, q2, rfl, rfl, hk2⟩ := hx2.shape
  have HS2 := Lib.hid hs2
  have TR2 := Lib.hid (synIn.of (ps := [w.heap.size]) hx2 (Nat.le_trans (Nat.le_refl _) B1.out.size) (fun p hp => by simp only [List.mem_cons, List.not_mem_nil, or_false] at hp; have g0 := XR1.out.lt; omega))
  have A2 := Lib.hid ha2; have B2 := Lib.hid (B1.out.trans hb2)
  have XR2 := Lib.hid (XR1.out.butt HPR.out hb2)
  clear ha2 hb2 hx2 hk2 hs2
  refine Lib.hid ?_
  have A2a := Lib.hid (A2.out.alloc (Obj.cells #[.int .i64 k2, .int .i64 a2, .string t2, .int .i64 n2, .slice o2 l2 c2] 25)); have B2a := Lib.hid (B2.out.alloc HRW.out (Obj.cells #[.int .i64 k2, .int .i64 a2, .string t2, .int .i64 n2, .slice o2 l2 c2] 25))
  have XR2a := Lib.hid (XR2.out.alloc (Obj.cells #[.int .i64 k2, .int .i64 a2, .string t2, .int .i64 n2, .slice o2 l2 c2] 25))
  have TR22a := Lib.hid (TR2.out.butt HLT.out (Butt.of_below A2.out.fix.lt ((Below.refl _ _).alloc (Nat.le_refl _) (Obj.cells #[.int .i64 k2, .int .i64 a2, .string t2, .int .i64 n2, .slice o2 l2 c2] 25))))
  have PXL : Hid (w2.heap.size ≠ R) := Lib.hid (fun e => absurd (A2.out.fix.lt) (by rw [e]; exact Nat.lt_irrefl _))
  have XL2a := Lib.hid (Bx5.new w2 (.int .i64 k2) (.int .i64 a2) (.string t2) (.int .i64 n2) (.slice o2 l2 c2))
  have CO := pisOp3 A2a.out
  cases hb : Lib.containsS (lvO 3) (cur L s2).t with
  | true =>
    rw [hb] at CO
    have KO := Lib.hid CO; have HBB := Lib.hid hb; clear CO hb
    go_wp2_with (go_at_call 143; refine (KO.out).mono ?_; rintro e w3 ⟨rfl, ha3, hb3⟩; refine Hid.out ?_)
    have A3 := Lib.hid ha3; have B3 := Lib.hid (B2a.out.trans hb3)
    have XR3 := Lib.hid (XR2a.out.butt HPR.out hb3)
    have XL3 := Lib.hid (XL2a.out.butt PXL.out hb3)
    have TR23 := Lib.hid (TR22a.out.butt HLT.out hb3)
    clear ha3 hb3
    refine Lib.hid ?_
    have zXL := XL3.out
    have yXL0 := zXL.c0
    have yXL1 := zXL.c1
    have yXL2 := zXL.c2
    have yXL3 := zXL.c3
    have yXL4 := zXL.c4
    clear zXL
    have COP := poperation 3 w.heap.size (by decide) (cur L st).a A3.out ⟨HLT.out, B3.out.size⟩ [w.heap.size] (by simp; have := XR3.out.lt; omega) (KL.out (takeS s2) (Nat.le_trans (takeS_rem _) (Run.rem HS2.out))) k2 a2 n2 t2 o2 l2 c2 (.mk k2 a2 t2 n2 q2) TR23.out
    have KOP := Lib.hid COP; clear COP
    go_wp2_with (go_at_call 144; refine (KOP.out).mono ?_; rintro e w4 ⟨y4, v4, s4, rfl, hx4, hs4, ha4, hb4⟩; refine Hid.out ?_)
    obtain ⟨k4, a4, t4, n4, o4, l4, c4, q4, hq4, rfl⟩ := hx4.shape
    have TR4 := Lib.hid hx4; have HS4 := Lib.hid hs4
    have A4 := Lib.hid ha4; have B4 := Lib.hid (B3.out.trans hb4)
    have XR4 := Lib.hid (XR3.out.butt HPR.out hb4)
    have XL4 := Lib.hid (XL3.out.butt PXL.out hb4)
    have TR24 := Lib.hid (TR23.out.butt HLT.out hb4)
    clear ha4 hb4 hx4 hs4
    refine Lib.hid ?_
    have FT := Lib.hid (store5 HA0.out B4.out A4.out XR4.out (Nat.le_refl _) (.int .i64 k4) (.int .i64 a4) (.string t4) (.int .i64 n4) (.slice o4 l4 c4) _ rfl)
    have GX := Lib.hid ((TR4.out).kept (by simp) FT.out.2.2.2).at
    have zXR := XR4.out
    have yXR0 := zXR.c0
    have yXR1 := zXR.c1
    have yXR2 := zXR.c2
    have yXR3 := zXR.c3
    have yXR4 := zXR.c4
    have fXR0 := zXR.free 0
    have fXR1 := zXR.free 1
    have fXR2 := zXR.free 2
    have fXR3 := zXR.free 3
    have fXR4 := zXR.free 4
    clear zXR
    obtain ⟨r0, r1, r2, r3, r4⟩ := FT.out.1
    have GA := Lib.hid FT.out.2.1; have GB := Lib.hid FT.out.2.2.1
    clear FT
    go_wp2
    refine bodyPost_ret (by simp [results, Tryz.results120, go_sem, r0, r1, r2, r3, r4]; rfl) rfl ?_
    exact ⟨_, _, _, rfl, GX.out, st_cmp_yes HTL.out HS2.out HBB.out HS4.out, GA.out, GB.out⟩
  | false =>
    rw [hb] at CO
    have KO := Lib.hid CO; have HBB := Lib.hid hb; clear CO hb
    go_wp2_with (go_at_call 143; refine (KO.out).mono ?_; rintro e w3 ⟨rfl, ha3, hb3⟩; refine Hid.out ?_)
    have A3 := Lib.hid ha3; have B3 := Lib.hid (B2a.out.trans hb3)
    have XR3 := Lib.hid (XR2a.out.butt HPR.out hb3)
    have XL3 := Lib.hid (XL2a.out.butt PXL.out hb3)
    have TR23 := Lib.hid (TR22a.out.butt HLT.out hb3)
    clear ha3 hb3
    refine Lib.hid ?_
    have zXL := XL3.out
    have yXL0 := zXL.c0
    have yXL1 := zXL.c1
    have yXL2 := zXL.c2
    have yXL3 := zXL.c3
    have yXL4 := zXL.c4
    clear zXL
    have FT := Lib.hid (store5 HA0.out B3.out A3.out XR3.out (Nat.le_refl _) (.int .i64 k2) (.int .i64 a2) (.string t2) (.int .i64 n2) (.slice o2 l2 c2) _ rfl)
    have GX := Lib.hid ((TR23.out).kept (by simp) FT.out.2.2.2).at
    have zXR := XR3.out
    have yXR0 := zXR.c0
    have yXR1 := zXR.c1
    have yXR2 := zXR.c2
    have yXR3 := zXR.c3
    have yXR4 := zXR.c4
    have fXR0 := zXR.free 0
    have fXR1 := zXR.free 1
    have fXR2 := zXR.free 2
    have fXR3 := zXR.free 3
    have fXR4 := zXR.free 4
    clear zXR
    obtain ⟨r0, r1, r2, r3, r4⟩ := FT.out.1
    have GA := Lib.hid FT.out.2.1; have GB := Lib.hid FT.out.2.2.1
    clear FT
    go_wp2
    refine bodyPost_ret (by simp [results, Tryz.results120, go_sem, r0, r1, r2, r3, r4]; rfl) rfl ?_
    exact ⟨_, _, _, rfl, GX.out, st_cmp_no HTL.out HS2.out HBB.out, GA.out, GB.out⟩
set_option maxRecDepth 20000 in
set_option maxHeartbeats 1000000 in
theorem pprefixed2 {R : Nat} {L : List Tk} {d : Nat} {st : RSt} {w : World} (h : At R L w d st) (hd : d ≤ 999999) (K1 : GT 77 R L #[.pointer (some ⟨R, 0, none⟩), .int .i64 3] (.lvl 3) d st) (K2 : Lib.containsS (lvO 2) (cur L st).t = true → GT 77 R L #[.pointer (some ⟨R, 0, none⟩), .int .i64 2] (.lvl 2) (d + 1) (enterS L st d true)) :
    Calls Tryz.prog 119 #[.pointer (some ⟨R, 0, none⟩), .int .i64 2] w (PT R L (.lvl 2) d st w) := by
  have HTL := Lib.hid h.fix.toks
  have CO := fun W (H : At R L W d st) => pisOp2 H
  have CT := fun W (H : At R L W d st) => stoken H
  have CE := fun W (H : At R L W d st) => senter H hd (cur L st).t
  rw [tIs_self, tokM_true] at CE
  have hf := run_field_tok1
  cases hb : Lib.containsS (lvO 2) (cur L st).t with
  | true =>
    rw [hb] at CO
    have K3 := K2 hb; clear K2
    have HM := Lib.hid (fun x s' (hs : Stp (.lvl 2) (d + 1) (enterS L st d true) [x] s') => st_pre_yes HTL.out (by omega) hb hs)
    generalize cur L st = T at *
    obtain ⟨ek, et, ea⟩ := T
    unfold tkA at *
    dsimp only at *
    have KO := Lib.hid CO; have KT := Lib.hid CT; have KE := Lib.hid CE; have KL := Lib.hid K3; have HD := Lib.hid hd
    have HA0 := Lib.hid h
    have HLT := Lib.hid h.fix.lt; have HRW := Lib.hid h.fix.lt
    have hA := h.alloc (Obj.cells #[.int .i64 0, .int .i64 0, .string ⟨#[]⟩, .int .i64 0, .slice none 0 0] 25)
    have hB := (Butt.refl R w).alloc h.fix.lt (Obj.cells #[.int .i64 0, .int .i64 0, .string ⟨#[]⟩, .int .i64 0, .slice none 0 0] 25)
    have hX := Bx5.new w (.int .i64 0) (.int .i64 0) (.string ⟨#[]⟩) (.int .i64 0) (.slice none 0 0)
    have hpR : w.heap.size ≠ R := fun e => absurd h.fix.lt (by rw [e]; exact Nat.lt_irrefl _)
    have hls : w.heap.size < (w.alloc (Obj.cells #[.int .i64 0, .int .i64 0, .string ⟨#[]⟩, .int .i64 0, .slice none 0 0] 25)).heap.size := by simp
    have A0 := Lib.hid hA; have B0 := Lib.hid hB; have XR0 := Lib.hid hX; have HPR := Lib.hid hpR; have HLS := Lib.hid hls
    clear hA hB hX hpR hls h CO CT CE K1 K3 hb hd HTL
    go_enter Tryz.func119, Tryz.ntmps119
    go_wp2_with (go_at_call 143; refine (KO.out _ A0.out).mono ?_; rintro e w1 ⟨rfl, ha1, hb1⟩; refine Hid.out ?_)
    have A1 := Lib.hid ha1; have B1 := Lib.hid (B0.out.trans hb1)
    have XR1 := Lib.hid (XR0.out.butt HPR.out hb1)
    clear ha1 hb1
    refine Lib.hid ?_
    go_wp2_with (go_at_call 95; refine (KT.out _ A1.out).mono ?_; rintro e w2 ⟨rfl, ha2, hb2⟩; refine Hid.out ?_)
    have A2 := Lib.hid ha2; have B2 := Lib.hid (B1.out.trans hb2)
    have XR2 := Lib.hid (XR1.out.butt HPR.out hb2)
    clear ha2 hb2
    refine Lib.hid ?_
    go_wp2_with (go_at_call 114; refine (KE.out _ A2.out).mono ?_; rintro e w3 ⟨rfl, ha3, hb3⟩; refine Hid.out ?_)
    have A3 := Lib.hid ha3; have B3 := Lib.hid (B2.out.trans hb3)
    have XR3 := Lib.hid (XR2.out.butt HPR.out hb3)
    clear ha3 hb3
    refine Lib.hid ?_
    have A3a := Lib.hid (A3.out.alloc (Obj.cells #[.int .i64 ek, .string et, .int .i64 ea] 47)); have B3a := Lib.hid (B3.out.alloc HRW.out (Obj.cells #[.int .i64 ek, .string et, .int .i64 ea] 47))
    have XR3a := Lib.hid (XR3.out.alloc (Obj.cells #[.int .i64 ek, .string et, .int .i64 ea] 47))
    have PTT : Hid (w3.heap.size ≠ R) := Lib.hid (fun e => absurd (A3.out.fix.lt) (by rw [e]; exact Nat.lt_irrefl _))
    have TT3a := Lib.hid (Bx3.new w3 (.int .i64 ek) (.string et) (.int .i64 ea))
    go_wp2_with (go_at_call 77; refine (KL.out _ A3a.out).mono ?_; rintro e w4 ⟨x4, v4, s4, rfl, hx4, hs4, ha4, hb4⟩; refine Hid.out ?_)
    obtain ⟨k4, a4, t4, n4, o4, l4, c4, q4, rfl, rfl, hk4⟩ := hx4.shape
    have HS4 := Lib.hid hs4
    have TR4 := Lib.hid (synIn.of (ps := [w.heap.size]) hx4 (Nat.le_trans (Nat.le_refl _) B3a.out.size) (fun p hp => by simp only [List.mem_cons, List.not_mem_nil, or_false] at hp; have g0 := XR3a.out.lt; omega))
    have A4 := Lib.hid ha4; have B4 := Lib.hid (B3a.out.trans hb4)
    have XR4 := Lib.hid (XR3a.out.butt HPR.out hb4)
    have TT4 := Lib.hid (TT3a.out.butt PTT.out hb4)
    clear ha4 hb4 hx4 hk4 hs4
    refine Lib.hid ?_
    have A4a1 := Lib.hid (A4.out.alloc (Obj.cells #[.int .i64 k4, .int .i64 a4, .string t4, .int .i64 n4, .slice o4 l4 c4] 25)); have B4a1 := Lib.hid (B4.out.alloc HRW.out (Obj.cells #[.int .i64 k4, .int .i64 a4, .string t4, .int .i64 n4, .slice o4 l4 c4] 25))
    have XR4a1 := Lib.hid (XR4.out.alloc (Obj.cells #[.int .i64 k4, .int .i64 a4, .string t4, .int .i64 n4, .slice o4 l4 c4] 25))
    have TT4a1 := Lib.hid (TT4.out.alloc (Obj.cells #[.int .i64 k4, .int .i64 a4, .string t4, .int .i64 n4, .slice o4 l4 c4] 25))
    have TR44a1 := Lib.hid (TR4.out.butt HLT.out (Butt.of_below A4.out.fix.lt ((Below.refl _ _).alloc (Nat.le_refl _) (Obj.cells #[.int .i64 k4, .int .i64 a4, .string t4, .int .i64 n4, .slice o4 l4 c4] 25))))
    have PXX : Hid (w4.heap.size ≠ R) := Lib.hid (fun e => absurd (A4.out.fix.lt) (by rw [e]; exact Nat.lt_irrefl _))
    have XX4a1 := Lib.hid (Bx5.new w4 (.int .i64 k4) (.int .i64 a4) (.string t4) (.int .i64 n4) (.slice o4 l4 c4))
    go_wp2_with (go_at_call 117; refine (sleave A4a1.out HD.out).mono ?_; rintro e w5 ⟨rfl, ha5, hb5⟩; refine Hid.out ?_)
    have A5 := Lib.hid ha5; have B5 := Lib.hid (B4a1.out.trans hb5)
    have XR5 := Lib.hid (XR4a1.out.butt HPR.out hb5)
    have TT5 := Lib.hid (TT4a1.out.butt PTT.out hb5)
    have XX5 := Lib.hid (XX4a1.out.butt PXX.out hb5)
    have TR45 := Lib.hid (TR44a1.out.butt HLT.out hb5)
    clear ha5 hb5
    refine Lib.hid ?_
    have zTT := TT5.out
    have yTT0 := zTT.c0
    have yTT1 := zTT.c1
    have yTT2 := zTT.c2
    clear zTT
    have zXX := XX5.out
    have yXX0 := zXX.c0
    have yXX1 := zXX.c1
    have yXX2 := zXX.c2
    have yXX3 := zXX.c3
    have yXX4 := zXX.c4
    clear zXX
    have hAw : offs w.heap.size [w.heap.size] w5.heap.size := ⟨Nat.le_trans (Nat.le_refl _) B5.out.size, fun hp => by simp only [List.mem_cons, List.not_mem_nil, or_false] at hp; have g0 := XR5.out.lt; omega⟩
    have hki := kidsIn_new (flatIn.one (TR45.out)) (by simp) hAw 1 rfl
    have KI := Lib.hid hki
    clear hAw hki
    go_wp2_with (go_at_call 59; refine (pnode_any _ _ _ _ _ _ _).mono ?_; rintro e w6 ⟨rfl, hb6⟩; refine Hid.out ?_)
    have hbx := Butt.of_below (R := R) A5.out.fix.lt (Below.chain ((Below.refl _ _).alloc (Nat.le_refl _) (Obj.cells #[.int .i64 k4, .int .i64 a4, .string t4, .int .i64 n4, .slice o4 l4 c4] 25)) hb6)
    have ha6 : At R L w6 _ _ := ⟨A5.out.fix.butt hbx, A5.out.rs.below (Below.chain ((Below.refl _ _).alloc (Nat.le_refl _) (Obj.cells #[.int .i64 k4, .int .i64 a4, .string t4, .int .i64 n4, .slice o4 l4 c4] 25)) hb6)⟩
    have TN := Lib.hid (synIn_mk.mpr ⟨_, rfl, KI.out.below hb6⟩ : synIn (offs w.heap.size [w.heap.size]) w6 (.mk 21 ea et 0 [(.mk k4 a4 t4 n4 q4)]) _)
    have hb6 := hbx; clear hbx
    have A6 := Lib.hid ha6; have B6 := Lib.hid (B5.out.trans hb6)
    have XR6 := Lib.hid (XR5.out.butt HPR.out hb6)
    have TT6 := Lib.hid (TT5.out.butt PTT.out hb6)
    have XX6 := Lib.hid (XX5.out.butt PXX.out hb6)
    clear ha6 hb6
    refine Lib.hid ?_
    have FT := Lib.hid (store5 HA0.out B6.out A6.out XR6.out (Nat.le_refl _) (.int .i64 21) (.int .i64 ea) (.string et) (.int .i64 0) (.slice (some ⟨w5.heap.size, 0, none⟩) 1 1) _ rfl)
    have GX := Lib.hid ((TN.out).kept (by simp) FT.out.2.2.2).at
    have zXR := XR6.out
    have yXR0 := zXR.c0
    have yXR1 := zXR.c1
    have yXR2 := zXR.c2
    have yXR3 := zXR.c3
    have yXR4 := zXR.c4
    have fXR0 := zXR.free 0
    have fXR1 := zXR.free 1
    have fXR2 := zXR.free 2
    have fXR3 := zXR.free 3
    have fXR4 := zXR.free 4
    clear zXR
    obtain ⟨r0, r1, r2, r3, r4⟩ := FT.out.1
    have GA := Lib.hid FT.out.2.1; have GB := Lib.hid FT.out.2.2.1
    clear FT
    go_wp2
    refine bodyPost_ret (by simp [results, Tryz.results119, go_sem, r0, r1, r2, r3, r4]; rfl) rfl ?_
    exact ⟨_, _, _, rfl, GX.out, HM.out _ _ HS4.out, GA.out, GB.out⟩
  | false =>
    rw [hb] at CO
    have HBB := Lib.hid hb; have KO := Lib.hid CO; have KL := Lib.hid K1
    have HA0 := Lib.hid h
    have HLT := Lib.hid h.fix.lt; have HRW := Lib.hid h.fix.lt
    have hA := h.alloc (Obj.cells #[.int .i64 0, .int .i64 0, .string ⟨#[]⟩, .int .i64 0, .slice none 0 0] 25)
    have hB := (Butt.refl R w).alloc h.fix.lt (Obj.cells #[.int .i64 0, .int .i64 0, .string ⟨#[]⟩, .int .i64 0, .slice none 0 0] 25)
    have hX := Bx5.new w (.int .i64 0) (.int .i64 0) (.string ⟨#[]⟩) (.int .i64 0) (.slice none 0 0)
    have hpR : w.heap.size ≠ R := fun e => absurd h.fix.lt (by rw [e]; exact Nat.lt_irrefl _)
    have hls : w.heap.size < (w.alloc (Obj.cells #[.int .i64 0, .int .i64 0, .string ⟨#[]⟩, .int .i64 0, .slice none 0 0] 25)).heap.size := by simp
    have A0 := Lib.hid hA; have B0 := Lib.hid hB; have XR0 := Lib.hid hX; have HPR := Lib.hid hpR; have HLS := Lib.hid hls
    clear hA hB hX hpR hls h CO CT CE K1 K2 hb hd
    go_enter Tryz.func119, Tryz.ntmps119
    go_wp2_with (go_at_call 143; refine (KO.out _ A0.out).mono ?_; rintro e w1 ⟨rfl, ha1, hb1⟩; refine Hid.out ?_)
    have A1 := Lib.hid ha1; have B1 := Lib.hid (B0.out.trans hb1)
    have XR1 := Lib.hid (XR0.out.butt HPR.out hb1)
    clear ha1 hb1
    refine Lib.hid ?_
    go_wp2_with (go_at_call 77; refine (KL.out _ A1.out).mono ?_; rintro e w2 ⟨x2, v2, s2, rfl, hx2, hs2, ha2, hb2⟩; refine Hid.out ?_)
    obtain ⟨k2, a2, t2, n2, o2, l2, c2, q2, rfl, rfl, hk2⟩ := hx2.shape
    have HS2 := Lib.hid hs2
    have TR2 := Lib.hid (synIn.of (ps := [w.heap.size]) hx2 (Nat.le_trans (Nat.le_refl _) B1.out.size) (fun p hp => by simp only [List.mem_cons, List.not_mem_nil, or_false] at hp; have g0 := XR1.out.lt; omega))
    have A2 := Lib.hid ha2; have B2 := Lib.hid (B1.out.trans hb2)
    have XR2 := Lib.hid (XR1.out.butt HPR.out hb2)
    clear ha2 hb2 hx2 hk2 hs2
    refine Lib.hid ?_
    have FT := Lib.hid (store5 HA0.out B2.out A2.out XR2.out (Nat.le_refl _) (.int .i64 k2) (.int .i64 a2) (.string t2) (.int .i64 n2) (.slice o2 l2 c2) _ rfl)
    have GX := Lib.hid ((TR2.out).kept (by simp) FT.out.2.2.2).at
    have zXR := XR2.out
    have yXR0 := zXR.c0
    have yXR1 := zXR.c1
    have yXR2 := zXR.c2
    have yXR3 := zXR.c3
    have yXR4 := zXR.c4
    have fXR0 := zXR.free 0
    have fXR1 := zXR.free 1
    have fXR2 := zXR.free 2
    have fXR3 := zXR.free 3
    have fXR4 := zXR.free 4
    clear zXR
    obtain ⟨r0, r1, r2, r3, r4⟩ := FT.out.1
    have GA := Lib.hid FT.out.2.1; have GB := Lib.hid FT.out.2.2.1
    clear FT
    go_wp2
    refine bodyPost_ret (by simp [results, Tryz.results119, go_sem, r0, r1, r2, r3, r4]; rfl) rfl ?_
    exact ⟨_, _, _, rfl, GX.out, st_pre_no HTL.out (by omega) HBB.out HS2.out, GA.out, GB.out⟩
set_option maxRecDepth 20000 in
set_option maxHeartbeats 1000000 in
theorem pprefixed6 {R : Nat} {L : List Tk} {d : Nat} {st : RSt} {w : World} (h : At R L w d st) (hd : d ≤ 999999) (K1 : GT 77 R L #[.pointer (some ⟨R, 0, none⟩), .int .i64 7] (.lvl 7) d st) (K2 : Lib.containsS (lvO 6) (cur L st).t = true → GT 77 R L #[.pointer (some ⟨R, 0, none⟩), .int .i64 6] (.lvl 6) (d + 1) (enterS L st d true)) :
    Calls Tryz.prog 119 #[.pointer (some ⟨R, 0, none⟩), .int .i64 6] w (PT R L (.lvl 6) d st w) := by
  have HTL := Lib.hid h.fix.toks
  have CO := fun W (H : At R L W d st) => pisOp6 H
  have CT := fun W (H : At R L W d st) => stoken H
  have CE := fun W (H : At R L W d st) => senter H hd (cur L st).t
  rw [tIs_self, tokM_true] at CE
  have hf := run_field_tok1
  cases hb : Lib.containsS (lvO 6) (cur L st).t with
  | true =>
    rw [hb] at CO
    have K3 := K2 hb; clear K2
    have HM := Lib.hid (fun x s' (hs : Stp (.lvl 6) (d + 1) (enterS L st d true) [x] s') => st_pre_yes HTL.out (by omega) hb hs)
    generalize cur L st = T at *
    obtain ⟨ek, et, ea⟩ := T
    unfold tkA at *
    dsimp only at *
    have KO := Lib.hid CO; have KT := Lib.hid CT; have KE := Lib.hid CE; have KL := Lib.hid K3; have HD := Lib.hid hd
    have HA0 := Lib.hid h
    have HLT := Lib.hid h.fix.lt; have HRW := Lib.hid h.fix.lt
    have hA := h.alloc (Obj.cells #[.int .i64 0, .int .i64 0, .string ⟨#[]⟩, .int .i64 0, .slice none 0 0] 25)
    have hB := (Butt.refl R w).alloc h.fix.lt (Obj.cells #[.int .i64 0, .int .i64 0, .string ⟨#[]⟩, .int .i64 0, .slice none 0 0] 25)
    have hX := Bx5.new w (.int .i64 0) (.int .i64 0) (.string ⟨#[]⟩) (.int .i64 0) (.slice none 0 0)
    have hpR : w.heap.size ≠ R := fun e => absurd h.fix.lt (by rw [e]; exact Nat.lt_irrefl _)
    have hls : w.heap.size < (w.alloc (Obj.cells #[.int .i64 0, .int .i64 0, .string ⟨#[]⟩, .int .i64 0, .slice none 0 0] 25)).heap.size := by simp
    have A0 := Lib.hid hA; have B0 := Lib.hid hB; have XR0 := Lib.hid hX; have HPR := Lib.hid hpR; have HLS := Lib.hid hls
    clear hA hB hX hpR hls h CO CT CE K1 K3 hb hd HTL
    go_enter Tryz.func119, Tryz.ntmps119
    go_wp2_with (go_at_call 143; refine (KO.out _ A0.out).mono ?_; rintro e w1 ⟨rfl, ha1, hb1⟩; refine Hid.out ?_)
    have A1 := Lib.hid ha1; have B1 := Lib.hid (B0.out.trans hb1)
    have XR1 := Lib.hid (XR0.out.butt HPR.out hb1)
    clear ha1 hb1
    refine Lib.hid ?_
    go_wp2_with (go_at_call 95; refine (KT.out _ A1.out).mono ?_; rintro e w2 ⟨rfl, ha2, hb2⟩; refine Hid.out ?_)
    have A2 := Lib.hid ha2; have B2 := Lib.hid (B1.out.trans hb2)
    have XR2 := Lib.hid (XR1.out.butt HPR.out hb2)
    clear ha2 hb2
    refine Lib.hid ?_
    go_wp2_with (go_at_call 114; refine (KE.out _ A2.out).mono ?_; rintro e w3 ⟨rfl, ha3, hb3⟩; refine Hid.out ?_)
    have A3 := Lib.hid ha3; have B3 := Lib.hid (B2.out.trans hb3)
    have XR3 := Lib.hid (XR2.out.butt HPR.out hb3)
    clear ha3 hb3
    refine Lib.hid ?_
    have A3a := Lib.hid (A3.out.alloc (Obj.cells #[.int .i64 ek, .string et, .int .i64 ea] 47)); have B3a := Lib.hid (B3.out.alloc HRW.out (Obj.cells #[.int .i64 ek, .string et, .int .i64 ea] 47))
    have XR3a := Lib.hid (XR3.out.alloc (Obj.cells #[.int .i64 ek, .string et, .int .i64 ea] 47))
    have PTT : Hid (w3.heap.size ≠ R) := Lib.hid (fun e => absurd (A3.out.fix.lt) (by rw [e]; exact Nat.lt_irrefl _))
    have TT3a := Lib.hid (Bx3.new w3 (.int .i64 ek) (.string et) (.int .i64 ea))
    go_wp2_with (go_at_call 77; refine (KL.out _ A3a.out).mono ?_; rintro e w4 ⟨x4, v4, s4, rfl, hx4, hs4, ha4, hb4⟩; refine Hid.out ?_)
    obtain ⟨k4, a4, t4, n4, o4, l4, c4, q4, rfl, rfl, hk4⟩ := hx4.shape
    have HS4 := Lib.hid hs4
    have TR4 := Lib.hid (synIn.of (ps := [w.heap.size]) hx4 (Nat.le_trans (Nat.le_refl _) B3a.out.size) (fun p hp => by simp only [List.mem_cons, List.not_mem_nil, or_false] at hp; have g0 := XR3a.out.lt; omega))
    have A4 := Lib.hid ha4; have B4 := Lib.hid (B3a.out.trans hb4)
    have XR4 := Lib.hid (XR3a.out.butt HPR.out hb4)
    have TT4 := Lib.hid (TT3a.out.butt PTT.out hb4)
    clear ha4 hb4 hx4 hk4 hs4
    refine Lib.hid ?_
    have A4a1 := Lib.hid (A4.out.alloc (Obj.cells #[.int .i64 k4, .int .i64 a4, .string t4, .int .i64 n4, .slice o4 l4 c4] 25)); have B4a1 := Lib.hid (B4.out.alloc HRW.out (Obj.cells #[.int .i64 k4, .int .i64 a4, .string t4, .int .i64 n4, .slice o4 l4 c4] 25))
    have XR4a1 := Lib.hid (XR4.out.alloc (Obj.cells #[.int .i64 k4, .int .i64 a4, .string t4, .int .i64 n4, .slice o4 l4 c4] 25))
    have TT4a1 := Lib.hid (TT4.out.alloc (Obj.cells #[.int .i64 k4, .int .i64 a4, .string t4, .int .i64 n4, .slice o4 l4 c4] 25))
    have TR44a1 := Lib.hid (TR4.out.butt HLT.out (Butt.of_below A4.out.fix.lt ((Below.refl _ _).alloc (Nat.le_refl _) (Obj.cells #[.int .i64 k4, .int .i64 a4, .string t4, .int .i64 n4, .slice o4 l4 c4] 25))))
    have PXX : Hid (w4.heap.size ≠ R) := Lib.hid (fun e => absurd (A4.out.fix.lt) (by rw [e]; exact Nat.lt_irrefl _))
    have XX4a1 := Lib.hid (Bx5.new w4 (.int .i64 k4) (.int .i64 a4) (.string t4) (.int .i64 n4) (.slice o4 l4 c4))
    go_wp2_with (go_at_call 117; refine (sleave A4a1.out HD.out).mono ?_; rintro e w5 ⟨rfl, ha5, hb5⟩; refine Hid.out ?_)
    have A5 := Lib.hid ha5; have B5 := Lib.hid (B4a1.out.trans hb5)
    have XR5 := Lib.hid (XR4a1.out.butt HPR.out hb5)
    have TT5 := Lib.hid (TT4a1.out.butt PTT.out hb5)
    have XX5 := Lib.hid (XX4a1.out.butt PXX.out hb5)
    have TR45 := Lib.hid (TR44a1.out.butt HLT.out hb5)
    clear ha5 hb5
    refine Lib.hid ?_
    have zTT := TT5.out
    have yTT0 := zTT.c0
    have yTT1 := zTT.c1
    have yTT2 := zTT.c2
    clear zTT
    have zXX := XX5.out
    have yXX0 := zXX.c0
    have yXX1 := zXX.c1
    have yXX2 := zXX.c2
    have yXX3 := zXX.c3
    have yXX4 := zXX.c4
    clear zXX
    have hAw : offs w.heap.size [w.heap.size] w5.heap.size := ⟨Nat.le_trans (Nat.le_refl _) B5.out.size, fun hp => by simp only [List.mem_cons, List.not_mem_nil, or_false] at hp; have g0 := XR5.out.lt; omega⟩
    have hki := kidsIn_new (flatIn.one (TR45.out)) (by simp) hAw 1 rfl
    have KI := Lib.hid hki
    clear hAw hki
    go_wp2_with (go_at_call 59; refine (pnode_any _ _ _ _ _ _ _).mono ?_; rintro e w6 ⟨rfl, hb6⟩; refine Hid.out ?_)
    have hbx := Butt.of_below (R := R) A5.out.fix.lt (Below.chain ((Below.refl _ _).alloc (Nat.le_refl _) (Obj.cells #[.int .i64 k4, .int .i64 a4, .string t4, .int .i64 n4, .slice o4 l4 c4] 25)) hb6)
    have ha6 : At R L w6 _ _ := ⟨A5.out.fix.butt hbx, A5.out.rs.below (Below.chain ((Below.refl _ _).alloc (Nat.le_refl _) (Obj.cells #[.int .i64 k4, .int .i64 a4, .string t4, .int .i64 n4, .slice o4 l4 c4] 25)) hb6)⟩
    have TN := Lib.hid (synIn_mk.mpr ⟨_, rfl, KI.out.below hb6⟩ : synIn (offs w.heap.size [w.heap.size]) w6 (.mk 21 ea et 0 [(.mk k4 a4 t4 n4 q4)]) _)
    have hb6 := hbx; clear hbx
    have A6 := Lib.hid ha6; have B6 := Lib.hid (B5.out.trans hb6)
    have XR6 := Lib.hid (XR5.out.butt HPR.out hb6)
    have TT6 := Lib.hid (TT5.out.butt PTT.out hb6)
    have XX6 := Lib.hid (XX5.out.butt PXX.out hb6)
    clear ha6 hb6
    refine Lib.hid ?_
    have FT := Lib.hid (store5 HA0.out B6.out A6.out XR6.out (Nat.le_refl _) (.int .i64 21) (.int .i64 ea) (.string et) (.int .i64 0) (.slice (some ⟨w5.heap.size, 0, none⟩) 1 1) _ rfl)
    have GX := Lib.hid ((TN.out).kept (by simp) FT.out.2.2.2).at
    have zXR := XR6.out
    have yXR0 := zXR.c0
    have yXR1 := zXR.c1
    have yXR2 := zXR.c2
    have yXR3 := zXR.c3
    have yXR4 := zXR.c4
    have fXR0 := zXR.free 0
    have fXR1 := zXR.free 1
    have fXR2 := zXR.free 2
    have fXR3 := zXR.free 3
    have fXR4 := zXR.free 4
    clear zXR
    obtain ⟨r0, r1, r2, r3, r4⟩ := FT.out.1
    have GA := Lib.hid FT.out.2.1; have GB := Lib.hid FT.out.2.2.1
    clear FT
    go_wp2
    refine bodyPost_ret (by simp [results, Tryz.results119, go_sem, r0, r1, r2, r3, r4]; rfl) rfl ?_
    exact ⟨_, _, _, rfl, GX.out, HM.out _ _ HS4.out, GA.out, GB.out⟩
  | false =>
    rw [hb] at CO
    have HBB := Lib.hid hb; have KO := Lib.hid CO; have KL := Lib.hid K1
    have HA0 := Lib.hid h
    have HLT := Lib.hid h.fix.lt; have HRW := Lib.hid h.fix.lt
    have hA := h.alloc (Obj.cells #[.int .i64 0, .int .i64 0, .string ⟨#[]⟩, .int .i64 0, .slice none 0 0] 25)
    have hB := (Butt.refl R w).alloc h.fix.lt (Obj.cells #[.int .i64 0, .int .i64 0, .string ⟨#[]⟩, .int .i64 0, .slice none 0 0] 25)
    have hX := Bx5.new w (.int .i64 0) (.int .i64 0) (.string ⟨#[]⟩) (.int .i64 0) (.slice none 0 0)
    have hpR : w.heap.size ≠ R := fun e => absurd h.fix.lt (by rw [e]; exact Nat.lt_irrefl _)
    have hls : w.heap.size < (w.alloc (Obj.cells #[.int .i64 0, .int .i64 0, .string ⟨#[]⟩, .int .i64 0, .slice none 0 0] 25)).heap.size := by simp
    have A0 := Lib.hid hA; have B0 := Lib.hid hB; have XR0 := Lib.hid hX; have HPR := Lib.hid hpR; have HLS := Lib.hid hls
    clear hA hB hX hpR hls h CO CT CE K1 K2 hb hd
    go_enter Tryz.func119, Tryz.ntmps119
    go_wp2_with (go_at_call 143; refine (KO.out _ A0.out).mono ?_; rintro e w1 ⟨rfl, ha1, hb1⟩; refine Hid.out ?_)
    have A1 := Lib.hid ha1; have B1 := Lib.hid (B0.out.trans hb1)
    have XR1 := Lib.hid (XR0.out.butt HPR.out hb1)
    clear ha1 hb1
    refine Lib.hid ?_
    go_wp2_with (go_at_call 77; refine (KL.out _ A1.out).mono ?_; rintro e w2 ⟨x2, v2, s2, rfl, hx2, hs2, ha2, hb2⟩; refine Hid.out ?_)
    obtain ⟨k2, a2, t2, n2, o2, l2, c2, q2, rfl, rfl, hk2⟩ := hx2.shape
    have HS2 := Lib.hid hs2
    have TR2 := Lib.hid (synIn.of (ps := [w.heap.size]) hx2 (Nat.le_trans (Nat.le_refl _) B1.out.size) (fun p hp => by simp only [List.mem_cons, List.not_mem_nil, or_false] at hp; have g0 := XR1.out.lt; omega))
    have A2 := Lib.hid ha2; have B2 := Lib.hid (B1.out.trans hb2)
    have XR2 := Lib.hid (XR1.out.butt HPR.out hb2)
    clear ha2 hb2 hx2 hk2 hs2
    refine Lib.hid ?_
    have FT := Lib.hid (store5 HA0.out B2.out A2.out XR2.out (Nat.le_refl _) (.int .i64 k2) (.int .i64 a2) (.string t2) (.int .i64 n2) (.slice o2 l2 c2) _ rfl)
    have GX := Lib.hid ((TR2.out).kept (by simp) FT.out.2.2.2).at
    have zXR := XR2.out
    have yXR0 := zXR.c0
    have yXR1 := zXR.c1
    have yXR2 := zXR.c2
    have yXR3 := zXR.c3
    have yXR4 := zXR.c4
    have fXR0 := zXR.free 0
    have fXR1 := zXR.free 1
    have fXR2 := zXR.free 2
    have fXR3 := zXR.free 3
    have fXR4 := zXR.free 4
    clear zXR
    obtain ⟨r0, r1, r2, r3, r4⟩ := FT.out.1
    have GA := Lib.hid FT.out.2.1; have GB := Lib.hid FT.out.2.2.1
    clear FT
    go_wp2
    refine bodyPost_ret (by simp [results, Tryz.results119, go_sem, r0, r1, r2, r3, r4]; rfl) rfl ?_
    exact ⟨_, _, _, rfl, GX.out, st_pre_no HTL.out (by omega) HBB.out HS2.out, GA.out, GB.out⟩
def Rel (L : List Tk) (nx : Nat) (a : Int) (er : Nat) (st : RSt) : Prop := (er = 0 ∧ a = 0 ∧ st = .ok (L.drop nx)) ∨ (er ≠ 0 ∧ nx = L.length - 1 ∧ st = .bad a er)
theorem need_rel {L : List Tk} {nx er : Nat} {a : Int} {st : RSt} (can : Bool) (h : nx < L.length) (hs : Rel L nx a er st) :
    ∃ er' : Nat, erM er can = er' ∧ Rel L (nxM L nx can) (atM L nx a er can) er' (needS can st) ∧ nxM L nx can < L.length := by
  refine ⟨if can = true then er else if er = 0 then 4 else er, ?_, ?_, nxM_lt h can⟩
  · unfold erM
    cases can with
    | true => rfl
    | false =>
      rw [if_neg Bool.false_ne_true, if_neg Bool.false_ne_true]
      by_cases e : er = 0
      · subst e; rfl
      · rw [if_neg e, if_neg (by omega)]
  · cases can with
    | true =>
      have e : needS true st = takeS st := by cases st <;> rfl
      rw [e]
      exact take_of h hs
    | false =>
      rcases hs with ⟨rfl, rfl, rfl⟩ | ⟨h1, rfl, rfl⟩
      · refine .inr ⟨by simp, rfl, ?_⟩
        show RSt.bad (pHd (L.drop nx)).a 4 = .bad _ _
        rw [pHd_drop h]
        rfl
      · refine .inr ⟨by simp [h1], rfl, ?_⟩
        show RSt.bad a er = .bad _ _
        unfold atM
        rw [if_neg Bool.false_ne_true, if_neg Bool.false_ne_true, if_neg h1, if_neg (show ¬ (er : Int) = 0 by omega)]
section
variable {L : List Tk} {st : RSt} {d : Nat}
theorem st_bare (hf : st.fine) : Stp .bare d st [.mk 19 (tokM L st (isN (cur L st))).a (tokM L st (isN (cur L st))).t 0 []] (needS (isN (cur L st)) st) := by
  cases st with
  | bad a e => exact rfl
  | ok l =>
    rw [isN_ok]
    cases hc : pNamed (pHd l) with
    | true => exact st_go (pTl_ne hf) (pTl_len l) 0 fun f _ => by rw [pRead]; simp [pName, hc, bind, Except.bind, pure, Except.pure]; rfl
    | false => exact st_err (by decide) 0 fun f _ => by rw [pRead]; simp [pName, hc, bind, Except.bind, pure, Except.pure]
theorem st_place_no (hf : st.fine) (hd : tIs L (needS (isN (cur L st)) st) ⟨#[46]⟩ = false) : Stp .place d st [.mk 18 (tokM L st (isN (cur L st))).a (tokM L st (isN (cur L st))).t 0 []] (needS (isN (cur L st)) st) := by
  cases st with
  | bad a e => exact rfl
  | ok l =>
    rw [isN_ok] at hd ⊢
    cases hc : pNamed (pHd l) with
    | true =>
      rw [hc] at hd
      have hd := (tIs_ok L (pTl l) [46]).symm.trans hd
      exact st_go (pTl_ne hf) (pTl_len l) 0 fun f _ => by rw [pRead]; simp [pName, hc, hd, bind, Except.bind, pure, Except.pure]; rfl
    | false => exact st_err (by decide) 0 fun f _ => by rw [pRead]; simp [pName, hc, bind, Except.bind, pure, Except.pure]
theorem st_place_yes (hL : TkL L) (hf : st.fine) (hd : tIs L (needS (isN (cur L st)) st) ⟨#[46]⟩ = true) (s2 : RSt) (h2 : takeS (needS (isN (cur L st)) st) = s2) : Stp .place d st [.mk 18 (tokM L st (isN (cur L st))).a (tokM L st (isN (cur L st))).t 0 [.mk 19 (tokM L s2 (isN (cur L s2))).a (tokM L s2 (isN (cur L s2))).t 0 []]] (needS (isN (cur L s2)) s2) := by
  subst h2
  cases st with
  | bad a e => exact rfl
  | ok l =>
    rw [isN_ok] at hd ⊢
    cases hc : pNamed (pHd l) with
    | true =>
      rw [hc] at hd
      have hd := (tIs_ok L (pTl l) [46]).symm.trans hd
      show Stp _ _ _ [.mk 18 (pHd l).a (pHd l).t 0 [.mk 19 (tokM L (.ok (pTl (pTl l))) (isN (cur L (.ok (pTl (pTl l)))))).a (tokM L (.ok (pTl (pTl l))) (isN (cur L (.ok (pTl (pTl l)))))).t 0 []]] (needS (isN (cur L (.ok (pTl (pTl l))))) (.ok (pTl (pTl l))))
      rw [isN_ok]
      have hl := pTl_len l
      have hl2 := pTl_len (pTl l)
      have hl3 := pTl_len (pTl (pTl l))
      cases hc2 : pNamed (pHd (pTl (pTl l))) with
      | true => exact st_go (pTl_ne (pTl_ne (pTl_ne hf))) (by omega) 1 fun f hf => by obtain ⟨g, rfl⟩ : ∃ g, f = g + 1 := ⟨f - 1, by omega⟩; rw [pRead]; simp [pName, hc, hd, bind, Except.bind, pure, Except.pure]; rw [pRead]; simp [pName, hc2, bind, Except.bind, pure, Except.pure]; rfl
      | false => exact st_err (by decide) 1 fun f hf => by obtain ⟨g, rfl⟩ : ∃ g, f = g + 1 := ⟨f - 1, by omega⟩; rw [pRead]; simp [pName, hc, hd, bind, Except.bind, pure, Except.pure]; rw [pRead]; simp [pName, hc2, bind, Except.bind, pure, Except.pure]
    | false =>
      rw [hc] at hd
      exact absurd ((tIs_bad hL (s := [46]) (by decide)).symm.trans hd) (by decide)
theorem st_param_no (hf : st.fine) (hd : tIs L (needS (isN (cur L st)) st) ⟨#[58]⟩ = false) : Stp .param d st [.mk 4 (tokM L st (isN (cur L st))).a (tokM L st (isN (cur L st))).t 0 []] (needS (isN (cur L st)) st) := by
  cases st with
  | bad a e => exact rfl
  | ok l =>
    rw [isN_ok] at hd ⊢
    cases hc : pNamed (pHd l) with
    | true =>
      rw [hc] at hd
      have hd := (tIs_ok L (pTl l) [58]).symm.trans hd
      exact st_go (pTl_ne hf) (pTl_len l) 0 fun f _ => by rw [pRead]; simp [pName, hc, hd, bind, Except.bind, pure, Except.pure]; rfl
    | false => exact st_err (by decide) 0 fun f _ => by rw [pRead]; simp [pName, hc, bind, Except.bind, pure, Except.pure]
theorem st_param_yes (hL : TkL L) (hf : st.fine) (hd : tIs L (needS (isN (cur L st)) st) ⟨#[58]⟩ = true) (s2 : RSt) (h2 : takeS (needS (isN (cur L st)) st) = s2) : Stp .param d st [.mk 4 (tokM L st (isN (cur L st))).a (tokM L st (isN (cur L st))).t 0 [.mk 19 (tokM L s2 (isN (cur L s2))).a (tokM L s2 (isN (cur L s2))).t 0 []]] (needS (isN (cur L s2)) s2) := by
  subst h2
  cases st with
  | bad a e => exact rfl
  | ok l =>
    rw [isN_ok] at hd ⊢
    cases hc : pNamed (pHd l) with
    | true =>
      rw [hc] at hd
      have hd := (tIs_ok L (pTl l) [58]).symm.trans hd
      show Stp _ _ _ [.mk 4 (pHd l).a (pHd l).t 0 [.mk 19 (tokM L (.ok (pTl (pTl l))) (isN (cur L (.ok (pTl (pTl l)))))).a (tokM L (.ok (pTl (pTl l))) (isN (cur L (.ok (pTl (pTl l)))))).t 0 []]] (needS (isN (cur L (.ok (pTl (pTl l))))) (.ok (pTl (pTl l))))
      rw [isN_ok]
      have hl := pTl_len l
      have hl2 := pTl_len (pTl l)
      have hl3 := pTl_len (pTl (pTl l))
      cases hc2 : pNamed (pHd (pTl (pTl l))) with
      | true => exact st_go (pTl_ne (pTl_ne (pTl_ne hf))) (by omega) 1 fun f hf => by obtain ⟨g, rfl⟩ : ∃ g, f = g + 1 := ⟨f - 1, by omega⟩; rw [pRead]; simp [pName, hc, hd, bind, Except.bind, pure, Except.pure]; rw [pRead]; simp [pName, hc2, bind, Except.bind, pure, Except.pure]; rfl
      | false => exact st_err (by decide) 1 fun f hf => by obtain ⟨g, rfl⟩ : ∃ g, f = g + 1 := ⟨f - 1, by omega⟩; rw [pRead]; simp [pName, hc, hd, bind, Except.bind, pure, Except.pure]; rw [pRead]; simp [pName, hc2, bind, Except.bind, pure, Except.pure]
    | false =>
      rw [hc] at hd
      exact absurd ((tIs_bad hL (s := [58]) (by decide)).symm.trans hd) (by decide)
end
theorem sbare {R : Nat} {L : List Tk} {d : Nat} {st : RSt} {w : World} (h : At R L w d st) : Calls Tryz.prog 97 #[.pointer (some ⟨R, 0, none⟩)] w (PT R L .bare d st w) := by
  have hfi := h.fine
  obtain ⟨hf, nx, a, er, h1, h2, h3⟩ := h
  have hst := st_bare (L := L) (d := d) hfi
  obtain ⟨er', he, hr, hlt⟩ := need_rel (isN (tkD L nx)) h1 h3
  refine (pbare_any R L nx d a er w h2 h1 (Nat.le_trans hf.toks.len (by decide)) (Nat.le_trans (hf.toks.size nx) (by decide)) hf.cls).mono ?_
  rintro e w' ⟨rfl, hr', hb⟩
  rw [tok_of _ h1 h3]
  rw [he] at hr'
  rw [cur_of h1 h3] at hst
  exact ⟨_, _, _, rfl, synAt_mk.mpr ⟨_, rfl, .inl ⟨rfl, rfl⟩⟩, hst, ⟨hf.butt hb, _, _, er', hlt, hr', hr⟩, hb⟩
set_option maxHeartbeats 400000 in
theorem splace {R : Nat} {L : List Tk} {d : Nat} {st : RSt} {w : World} (h : At R L w d st) : Calls Tryz.prog 146 #[.pointer (some ⟨R, 0, none⟩)] w (PT R L .place d st w) := by
  have hfi := h.fine
  obtain ⟨hf, nx, a, er, h1, h2, h3⟩ := h
  have hn := st_place_no (L := L) (d := d) hfi
  have hy := st_place_yes (L := L) (d := d) hf.toks hfi
  have hlen := Nat.le_trans hf.toks.len (show 100000 ≤ 1000000 by decide)
  have hsz := fun n => Nat.le_trans (hf.toks.size n) (show 1000000 ≤ 9223372036854775807 by decide)
  have hB := fun W (hb : Butt R w W) => hf.cls.keep (hb.below hf.lt)
  obtain ⟨er', he, hr, hlt⟩ := need_rel (isN (tkD L nx)) h1 h3
  rw [cur_of h1 h3] at hn hy
  have hc1 : cur L (needS (isN (tkD L nx)) st) = tkD L (nxM L nx (isN (tkD L nx))) := cur_of hlt hr
  cases hd : tIs L (needS (isN (tkD L nx)) st) ⟨#[46]⟩ with
  | false =>
    have hd' : ((tkD L (nxM L nx (isN (tkD L nx)))).t.toList == (⟨#[46]⟩ : ByteArray).toList) = false := by rw [← hc1]; exact hd
    refine (pplace_any R L nx (nxM L nx (isN (tkD L nx))) d a er (atM L nx a er (isN (tkD L nx))) (erM er (isN (tkD L nx))) [] w h2 h1 hlen (hsz nx) hf.cls (fun W hb H => pbehind_no R L _ d _ _ _ W H hlt hlen hd')).mono ?_
    rintro e w' ⟨⟨v, rfl, hx⟩, hr', hb⟩
    rw [tok_of _ h1 h3] at hx
    rw [he] at hr'
    exact ⟨_, _, _, rfl, hx, hn hd, ⟨hf.butt hb, _, _, er', hlt, hr', hr⟩, hb⟩
  | true =>
    have hd' : ((tkD L (nxM L nx (isN (tkD L nx)))).t.toList == (⟨#[46]⟩ : ByteArray).toList) = true := by rw [← hc1]; exact hd
    have ht := take_of hlt hr
    have hlt2 : min (nxM L nx (isN (tkD L nx)) + 1) (L.length - 1) < L.length := by omega
    generalize hs2 : takeS (needS (isN (tkD L nx)) st) = s2 at *
    generalize hn2 : min (nxM L nx (isN (tkD L nx)) + 1) (L.length - 1) = n2 at *
    obtain ⟨er2, he2, hr2, hlt3⟩ := need_rel (isN (tkD L n2)) hlt2 ht
    have hy := hy hd s2 rfl
    rw [cur_of hlt2 ht] at hy
    refine (pplace_any R L nx (nxM L n2 (isN (tkD L n2))) d a er (atM L n2 (atM L nx a er (isN (tkD L nx))) er' (isN (tkD L n2))) (erM er' (isN (tkD L n2))) _ w h2 h1 hlen (hsz nx) hf.cls (fun W hb H => pbehind_yes R L _ n2 d _ _ _ W (by rw [he] at H; exact H) hlt hlen hd' hn2 (hsz n2) (hB W hb))).mono ?_
    rintro e w' ⟨⟨v, rfl, hx⟩, hr', hb⟩
    rw [tok_of _ h1 h3, tok_of _ hlt2 ht] at hx
    rw [he2] at hr'
    exact ⟨_, _, _, rfl, hx, hy, ⟨hf.butt hb, _, _, er2, hlt3, hr', hr2⟩, hb⟩
set_option maxHeartbeats 400000 in
theorem sparameter {R : Nat} {L : List Tk} {d : Nat} {st : RSt} {w : World} (h : At R L w d st) : Calls Tryz.prog 113 #[.pointer (some ⟨R, 0, none⟩)] w (PT R L .param d st w) := by
  have hfi := h.fine
  obtain ⟨hf, nx, a, er, h1, h2, h3⟩ := h
  have hn := st_param_no (L := L) (d := d) hfi
  have hy := st_param_yes (L := L) (d := d) hf.toks hfi
  have hlen := Nat.le_trans hf.toks.len (show 100000 ≤ 1000000 by decide)
  have hsz := fun n => Nat.le_trans (hf.toks.size n) (show 1000000 ≤ 9223372036854775807 by decide)
  have hB := fun W (hb : Butt R w W) => hf.cls.keep (hb.below hf.lt)
  obtain ⟨er', he, hr, hlt⟩ := need_rel (isN (tkD L nx)) h1 h3
  rw [cur_of h1 h3] at hn hy
  have hc1 : cur L (needS (isN (tkD L nx)) st) = tkD L (nxM L nx (isN (tkD L nx))) := cur_of hlt hr
  cases hd : tIs L (needS (isN (tkD L nx)) st) ⟨#[58]⟩ with
  | false =>
    have hd' : ((tkD L (nxM L nx (isN (tkD L nx)))).t.toList == (⟨#[58]⟩ : ByteArray).toList) = false := by rw [← hc1]; exact hd
    refine (pparameter_any R L nx (nxM L nx (isN (tkD L nx))) d a er (atM L nx a er (isN (tkD L nx))) (erM er (isN (tkD L nx))) [] w h2 h1 hlen (hsz nx) hf.cls (fun W hb H => pbehind_no R L _ d _ _ _ W H hlt hlen hd')).mono ?_
    rintro e w' ⟨⟨v, rfl, hx⟩, hr', hb⟩
    rw [tok_of _ h1 h3] at hx
    rw [he] at hr'
    exact ⟨_, _, _, rfl, hx, hn hd, ⟨hf.butt hb, _, _, er', hlt, hr', hr⟩, hb⟩
  | true =>
    have hd' : ((tkD L (nxM L nx (isN (tkD L nx)))).t.toList == (⟨#[58]⟩ : ByteArray).toList) = true := by rw [← hc1]; exact hd
    have ht := take_of hlt hr
    have hlt2 : min (nxM L nx (isN (tkD L nx)) + 1) (L.length - 1) < L.length := by omega
    generalize hs2 : takeS (needS (isN (tkD L nx)) st) = s2 at *
    generalize hn2 : min (nxM L nx (isN (tkD L nx)) + 1) (L.length - 1) = n2 at *
    obtain ⟨er2, he2, hr2, hlt3⟩ := need_rel (isN (tkD L n2)) hlt2 ht
    have hy := hy hd s2 rfl
    rw [cur_of hlt2 ht] at hy
    refine (pparameter_any R L nx (nxM L n2 (isN (tkD L n2))) d a er (atM L n2 (atM L nx a er (isN (tkD L nx))) er' (isN (tkD L n2))) (erM er' (isN (tkD L n2))) _ w h2 h1 hlen (hsz nx) hf.cls (fun W hb H => pbehind_yes R L _ n2 d _ _ _ W (by rw [he] at H; exact H) hlt hlen hd' hn2 (hsz n2) (hB W hb))).mono ?_
    rintro e w' ⟨⟨v, rfl, hx⟩, hr', hb⟩
    rw [tok_of _ h1 h3, tok_of _ hlt2 ht] at hx
    rw [he2] at hr'
    exact ⟨_, _, _, rfl, hx, hy, ⟨hf.butt hb, _, _, er2, hlt3, hr', hr2⟩, hb⟩
end Go.Proofs.YtdibcllakkjegaaGreatDoor
