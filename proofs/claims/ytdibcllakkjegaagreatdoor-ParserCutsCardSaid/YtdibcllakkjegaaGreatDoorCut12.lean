import Derived.Test.YtdibcllakkjegaaGreatDoorCut11

set_option linter.unusedVariables false
/-
  parser: unit.
-/
set_option linter.unusedSimpArgs false
set_option linter.unusedVariables false
namespace Go.Proofs.YtdibcllakkjegaaGreatDoor
open Go Go.Proofs Go.RowKit Go.Sort
set_option maxRecDepth 20000 in
set_option maxHeartbeats 1000000 in
theorem punit {R : Nat} {L : List Tk} {d : Nat} {st : RSt} {w : World} (h : At R L w d st) (hd : d ≤ 999999) (K : tIs L st ⟨#[40]⟩ = true → GT 41 R L #[.pointer (some ⟨R, 0, none⟩)] (.lvl 0) (d + 1) (enterS L st d true)) :
    Calls Tryz.prog 121 #[.pointer (some ⟨R, 0, none⟩), .int .i64 7] w (PT R L (.lvl 7) d st w) := by
  have HTL := Lib.hid h.fix.toks
  have hfi := h.fine
  have CN := fun W (H : At R L W d st) => sisNumber H
  have CK := fun W (H : At R L W d st) => stake H
  have CI := fun s W (H : At R L W d st) => sis H s
  have C1 := CI ⟨#[116, 114, 117, 101]⟩
  have C2 := CI ⟨#[102, 97, 108, 115, 101]⟩
  have C3 := CI ⟨#[40]⟩
  have CE := fun W (H : At R L W d st) => senter H hd ⟨#[40]⟩
  have CP := fun W (H : At R L W d st) => splace H
  clear CI
  cases h1 : ((cur L st).k == 1) with
  | true =>
    rw [h1] at CN
    have HM := Lib.hid (st_unit_num (d := d) HTL.out hfi h1)
    generalize cur L st = T at *
    obtain ⟨ek, et, ea⟩ := T
    unfold tkA at *
    dsimp only at *
    have KN := Lib.hid CN; have KK := Lib.hid CK
    have HA0 := Lib.hid h
    have HLT := Lib.hid h.fix.lt; have HRW := Lib.hid h.fix.lt
    have hA := h.alloc (Obj.cells #[.int .i64 0, .int .i64 0, .string ⟨#[]⟩, .int .i64 0, .slice none 0 0] 25)
    have hB := (Butt.refl R w).alloc h.fix.lt (Obj.cells #[.int .i64 0, .int .i64 0, .string ⟨#[]⟩, .int .i64 0, .slice none 0 0] 25)
    have hX := Bx5.new w (.int .i64 0) (.int .i64 0) (.string ⟨#[]⟩) (.int .i64 0) (.slice none 0 0)
    have hpR : w.heap.size ≠ R := fun e => absurd h.fix.lt (by rw [e]; exact Nat.lt_irrefl _)
    have hls : w.heap.size < (w.alloc (Obj.cells #[.int .i64 0, .int .i64 0, .string ⟨#[]⟩, .int .i64 0, .slice none 0 0] 25)).heap.size := by simp
    have A0 := Lib.hid hA; have B0 := Lib.hid hB; have XR0 := Lib.hid hX; have HPR := Lib.hid hpR; have HLS := Lib.hid hls
    clear hA hB hX hpR hls h CN CK C1 C2 C3 CE CP K hd h1 hfi HTL
    go_enter Tryz.func121, Tryz.ntmps121
    go_wp2_with (go_at_call 145; refine (KN.out _ A0.out).mono ?_; rintro e w1 ⟨rfl, ha1, hb1⟩; refine Hid.out ?_)
    have A1 := Lib.hid ha1; have B1 := Lib.hid (B0.out.trans hb1)
    have XR1 := Lib.hid (XR0.out.butt HPR.out hb1)
    clear ha1 hb1
    refine Lib.hid ?_
    go_wp2_with (go_at_call 110; refine (KK.out _ A1.out).mono ?_; rintro e w2 ⟨rfl, ha2, hb2⟩; refine Hid.out ?_)
    have A2 := Lib.hid ha2; have B2 := Lib.hid (B1.out.trans hb2)
    have XR2 := Lib.hid (XR1.out.butt HPR.out hb2)
    clear ha2 hb2
    refine Lib.hid ?_
    have A2a := Lib.hid (A2.out.alloc (Obj.cells #[.int .i64 ek, .string et, .int .i64 ea] 47)); have B2a := Lib.hid (B2.out.alloc HRW.out (Obj.cells #[.int .i64 ek, .string et, .int .i64 ea] 47))
    have XR2a := Lib.hid (XR2.out.alloc (Obj.cells #[.int .i64 ek, .string et, .int .i64 ea] 47))
    have PTT : Hid (w2.heap.size ≠ R) := Lib.hid (fun e => absurd (A2.out.fix.lt) (by rw [e]; exact Nat.lt_irrefl _))
    have TT2a := Lib.hid (Bx3.new w2 (.int .i64 ek) (.string et) (.int .i64 ea))
    have zTT := TT2a.out
    have yTT0 := zTT.c0
    have yTT1 := zTT.c1
    have yTT2 := zTT.c2
    clear zTT
    go_wp2_with (go_at_call 59; refine (pnode_any _ _ _ _ _ _ _).mono ?_; rintro e w3 ⟨rfl, hb3⟩; refine Hid.out ?_)
    have hbx := Butt.of_below (R := R) A2a.out.fix.lt hb3
    have ha3 : At R L w3 _ _ := ⟨A2a.out.fix.butt hbx, A2a.out.rs.below hb3⟩
    have TN := Lib.hid (synIn_mk.mpr ⟨_, rfl, (Or.inl ⟨rfl, rfl⟩)⟩ : synIn (offs w.heap.size [w.heap.size]) w3 (.mk 20 ea et 0 []) _)
    have hb3 := hbx; clear hbx
    have A3 := Lib.hid ha3; have B3 := Lib.hid (B2a.out.trans hb3)
    have XR3 := Lib.hid (XR2a.out.butt HPR.out hb3)
    have TT3 := Lib.hid (TT2a.out.butt PTT.out hb3)
    clear ha3 hb3
    refine Lib.hid ?_
    have FT := Lib.hid (store5 HA0.out B3.out A3.out XR3.out (Nat.le_refl _) (.int .i64 20) (.int .i64 ea) (.string et) (.int .i64 0) (.slice none 0 0) _ rfl)
    have GX := Lib.hid ((TN.out).kept (by simp) FT.out.2.2.2).at
    have zXR := XR3.out
    have yXR0 := zXR.c0
    have yXR1 := zXR.c1
    have yXR2 := zXR.c2
    have yXR3 := zXR.c3
    have yXR4 := zXR.c4
    have fXR0 := zXR.free 0
    have fXR1 := zXR.free 1
    have fXR2 := zXR.free 2
    have fXR3 := zXR.free 3
    have fXR4 := zXR.free 4
    clear zXR
    obtain ⟨r0, r1, r2, r3, r4⟩ := FT.out.1
    have GA := Lib.hid FT.out.2.1; have GB := Lib.hid FT.out.2.2.1
    clear FT
    go_wp2
    refine bodyPost_ret (by simp [results, Tryz.results121, go_sem, r0, r1, r2, r3, r4]; rfl) rfl ?_
    exact ⟨_, _, _, rfl, GX.out, HM.out, GA.out, GB.out⟩
  | false =>
    rw [h1] at CN
    cases h2 : tIs L st ⟨#[116, 114, 117, 101]⟩ with
    | true =>
      rw [h2] at C1
      have HM := Lib.hid (st_unit_truth (d := d) HTL.out hfi h1 (.inl h2))
      generalize cur L st = T at *
      obtain ⟨ek, et, ea⟩ := T
      unfold tkA at *
      dsimp only at *
      have KN := Lib.hid CN; have KK := Lib.hid CK; have K1 := Lib.hid C1; have K2 := Lib.hid C2
      have HA0 := Lib.hid h
      have HLT := Lib.hid h.fix.lt; have HRW := Lib.hid h.fix.lt
      have hA := h.alloc (Obj.cells #[.int .i64 0, .int .i64 0, .string ⟨#[]⟩, .int .i64 0, .slice none 0 0] 25)
      have hB := (Butt.refl R w).alloc h.fix.lt (Obj.cells #[.int .i64 0, .int .i64 0, .string ⟨#[]⟩, .int .i64 0, .slice none 0 0] 25)
      have hX := Bx5.new w (.int .i64 0) (.int .i64 0) (.string ⟨#[]⟩) (.int .i64 0) (.slice none 0 0)
      have hpR : w.heap.size ≠ R := fun e => absurd h.fix.lt (by rw [e]; exact Nat.lt_irrefl _)
      have hls : w.heap.size < (w.alloc (Obj.cells #[.int .i64 0, .int .i64 0, .string ⟨#[]⟩, .int .i64 0, .slice none 0 0] 25)).heap.size := by simp
      have A0 := Lib.hid hA; have B0 := Lib.hid hB; have XR0 := Lib.hid hX; have HPR := Lib.hid hpR; have HLS := Lib.hid hls
      clear hA hB hX hpR hls h CN CK C1 C2 C3 CE CP K hd h1 h2 hfi HTL
      go_enter Tryz.func121, Tryz.ntmps121
      go_wp2_with (go_at_call 145; refine (KN.out _ A0.out).mono ?_; rintro e w1 ⟨rfl, ha1, hb1⟩; refine Hid.out ?_)
      have A1 := Lib.hid ha1; have B1 := Lib.hid (B0.out.trans hb1)
      have XR1 := Lib.hid (XR0.out.butt HPR.out hb1)
      clear ha1 hb1
      refine Lib.hid ?_
      go_wp2_with (go_at_call 57; refine (K1.out _ A1.out).mono ?_; rintro e w2 ⟨rfl, ha2, hb2⟩; refine Hid.out ?_)
      have A2 := Lib.hid ha2; have B2 := Lib.hid (B1.out.trans hb2)
      have XR2 := Lib.hid (XR1.out.butt HPR.out hb2)
      clear ha2 hb2
      refine Lib.hid ?_
      go_wp2_with (go_at_call 110; refine (KK.out _ A2.out).mono ?_; rintro e w3 ⟨rfl, ha3, hb3⟩; refine Hid.out ?_)
      have A3 := Lib.hid ha3; have B3 := Lib.hid (B2.out.trans hb3)
      have XR3 := Lib.hid (XR2.out.butt HPR.out hb3)
      clear ha3 hb3
      refine Lib.hid ?_
      have A3a := Lib.hid (A3.out.alloc (Obj.cells #[.int .i64 ek, .string et, .int .i64 ea] 47)); have B3a := Lib.hid (B3.out.alloc HRW.out (Obj.cells #[.int .i64 ek, .string et, .int .i64 ea] 47))
      have XR3a := Lib.hid (XR3.out.alloc (Obj.cells #[.int .i64 ek, .string et, .int .i64 ea] 47))
      have PTT : Hid (w3.heap.size ≠ R) := Lib.hid (fun e => absurd (A3.out.fix.lt) (by rw [e]; exact Nat.lt_irrefl _))
      have TT3a := Lib.hid (Bx3.new w3 (.int .i64 ek) (.string et) (.int .i64 ea))
      have zTT := TT3a.out
      have yTT0 := zTT.c0
      have yTT1 := zTT.c1
      have yTT2 := zTT.c2
      clear zTT
      go_wp2_with (go_at_call 59; refine (pnode_any _ _ _ _ _ _ _).mono ?_; rintro e w4 ⟨rfl, hb4⟩; refine Hid.out ?_)
      have hbx := Butt.of_below (R := R) A3a.out.fix.lt hb4
      have ha4 : At R L w4 _ _ := ⟨A3a.out.fix.butt hbx, A3a.out.rs.below hb4⟩
      have TN := Lib.hid (synIn_mk.mpr ⟨_, rfl, (Or.inl ⟨rfl, rfl⟩)⟩ : synIn (offs w.heap.size [w.heap.size]) w4 (.mk 23 ea et 0 []) _)
      have hb4 := hbx; clear hbx
      have A4 := Lib.hid ha4; have B4 := Lib.hid (B3a.out.trans hb4)
      have XR4 := Lib.hid (XR3a.out.butt HPR.out hb4)
      have TT4 := Lib.hid (TT3a.out.butt PTT.out hb4)
      clear ha4 hb4
      refine Lib.hid ?_
      have FT := Lib.hid (store5 HA0.out B4.out A4.out XR4.out (Nat.le_refl _) (.int .i64 23) (.int .i64 ea) (.string et) (.int .i64 0) (.slice none 0 0) _ rfl)
      have GX := Lib.hid ((TN.out).kept (by simp) FT.out.2.2.2).at
      have zXR := XR4.out
      have yXR0 := zXR.c0
      have yXR1 := zXR.c1
      have yXR2 := zXR.c2
      have yXR3 := zXR.c3
      have yXR4 := zXR.c4
      have fXR0 := zXR.free 0
      have fXR1 := zXR.free 1
      have fXR2 := zXR.free 2
      have fXR3 := zXR.free 3
      have fXR4 := zXR.free 4
      clear zXR
      obtain ⟨r0, r1, r2, r3, r4⟩ := FT.out.1
      have GA := Lib.hid FT.out.2.1; have GB := Lib.hid FT.out.2.2.1
      clear FT
      go_wp2
      refine bodyPost_ret (by simp [results, Tryz.results121, go_sem, r0, r1, r2, r3, r4]; rfl) rfl ?_
      exact ⟨_, _, _, rfl, GX.out, HM.out, GA.out, GB.out⟩
    | false =>
      rw [h2] at C1
      cases h3 : tIs L st ⟨#[102, 97, 108, 115, 101]⟩ with
      | true =>
        rw [h3] at C2
        have HM := Lib.hid (st_unit_truth (d := d) HTL.out hfi h1 (.inr h3))
        generalize cur L st = T at *
        obtain ⟨ek, et, ea⟩ := T
        unfold tkA at *
        dsimp only at *
        have KN := Lib.hid CN; have KK := Lib.hid CK; have K1 := Lib.hid C1; have K2 := Lib.hid C2
        have HA0 := Lib.hid h
        have HLT := Lib.hid h.fix.lt; have HRW := Lib.hid h.fix.lt
        have hA := h.alloc (Obj.cells #[.int .i64 0, .int .i64 0, .string ⟨#[]⟩, .int .i64 0, .slice none 0 0] 25)
        have hB := (Butt.refl R w).alloc h.fix.lt (Obj.cells #[.int .i64 0, .int .i64 0, .string ⟨#[]⟩, .int .i64 0, .slice none 0 0] 25)
        have hX := Bx5.new w (.int .i64 0) (.int .i64 0) (.string ⟨#[]⟩) (.int .i64 0) (.slice none 0 0)
        have hpR : w.heap.size ≠ R := fun e => absurd h.fix.lt (by rw [e]; exact Nat.lt_irrefl _)
        have hls : w.heap.size < (w.alloc (Obj.cells #[.int .i64 0, .int .i64 0, .string ⟨#[]⟩, .int .i64 0, .slice none 0 0] 25)).heap.size := by simp
        have A0 := Lib.hid hA; have B0 := Lib.hid hB; have XR0 := Lib.hid hX; have HPR := Lib.hid hpR; have HLS := Lib.hid hls
        clear hA hB hX hpR hls h CN CK C1 C2 C3 CE CP K hd h1 h2 hfi HTL h3
        go_enter Tryz.func121, Tryz.ntmps121
        go_wp2_with (go_at_call 145; refine (KN.out _ A0.out).mono ?_; rintro e w1 ⟨rfl, ha1, hb1⟩; refine Hid.out ?_)
        have A1 := Lib.hid ha1; have B1 := Lib.hid (B0.out.trans hb1)
        have XR1 := Lib.hid (XR0.out.butt HPR.out hb1)
        clear ha1 hb1
        refine Lib.hid ?_
        go_wp2_with (go_at_call 57; refine (K1.out _ A1.out).mono ?_; rintro e w2 ⟨rfl, ha2, hb2⟩; refine Hid.out ?_)
        have A2 := Lib.hid ha2; have B2 := Lib.hid (B1.out.trans hb2)
        have XR2 := Lib.hid (XR1.out.butt HPR.out hb2)
        clear ha2 hb2
        refine Lib.hid ?_
        go_wp2_with (go_at_call 57; refine (K2.out _ A2.out).mono ?_; rintro e w3 ⟨rfl, ha3, hb3⟩; refine Hid.out ?_)
        have A3 := Lib.hid ha3; have B3 := Lib.hid (B2.out.trans hb3)
        have XR3 := Lib.hid (XR2.out.butt HPR.out hb3)
        clear ha3 hb3
        refine Lib.hid ?_
        go_wp2_with (go_at_call 110; refine (KK.out _ A3.out).mono ?_; rintro e w4 ⟨rfl, ha4, hb4⟩; refine Hid.out ?_)
        have A4 := Lib.hid ha4; have B4 := Lib.hid (B3.out.trans hb4)
        have XR4 := Lib.hid (XR3.out.butt HPR.out hb4)
        clear ha4 hb4
        refine Lib.hid ?_
        have A4a := Lib.hid (A4.out.alloc (Obj.cells #[.int .i64 ek, .string et, .int .i64 ea] 47)); have B4a := Lib.hid (B4.out.alloc HRW.out (Obj.cells #[.int .i64 ek, .string et, .int .i64 ea] 47))
        have XR4a := Lib.hid (XR4.out.alloc (Obj.cells #[.int .i64 ek, .string et, .int .i64 ea] 47))
        have PTT : Hid (w4.heap.size ≠ R) := Lib.hid (fun e => absurd (A4.out.fix.lt) (by rw [e]; exact Nat.lt_irrefl _))
        have TT4a := Lib.hid (Bx3.new w4 (.int .i64 ek) (.string et) (.int .i64 ea))
        have zTT := TT4a.out
        have yTT0 := zTT.c0
        have yTT1 := zTT.c1
        have yTT2 := zTT.c2
        clear zTT
        go_wp2_with (go_at_call 59; refine (pnode_any _ _ _ _ _ _ _).mono ?_; rintro e w5 ⟨rfl, hb5⟩; refine Hid.out ?_)
        have hbx := Butt.of_below (R := R) A4a.out.fix.lt hb5
        have ha5 : At R L w5 _ _ := ⟨A4a.out.fix.butt hbx, A4a.out.rs.below hb5⟩
        have TN := Lib.hid (synIn_mk.mpr ⟨_, rfl, (Or.inl ⟨rfl, rfl⟩)⟩ : synIn (offs w.heap.size [w.heap.size]) w5 (.mk 23 ea et 0 []) _)
        have hb5 := hbx; clear hbx
        have A5 := Lib.hid ha5; have B5 := Lib.hid (B4a.out.trans hb5)
        have XR5 := Lib.hid (XR4a.out.butt HPR.out hb5)
        have TT5 := Lib.hid (TT4a.out.butt PTT.out hb5)
        clear ha5 hb5
        refine Lib.hid ?_
        have FT := Lib.hid (store5 HA0.out B5.out A5.out XR5.out (Nat.le_refl _) (.int .i64 23) (.int .i64 ea) (.string et) (.int .i64 0) (.slice none 0 0) _ rfl)
        have GX := Lib.hid ((TN.out).kept (by simp) FT.out.2.2.2).at
        have zXR := XR5.out
        have yXR0 := zXR.c0
        have yXR1 := zXR.c1
        have yXR2 := zXR.c2
        have yXR3 := zXR.c3
        have yXR4 := zXR.c4
        have fXR0 := zXR.free 0
        have fXR1 := zXR.free 1
        have fXR2 := zXR.free 2
        have fXR3 := zXR.free 3
        have fXR4 := zXR.free 4
        clear zXR
        obtain ⟨r0, r1, r2, r3, r4⟩ := FT.out.1
        have GA := Lib.hid FT.out.2.1; have GB := Lib.hid FT.out.2.2.1
        clear FT
        go_wp2
        refine bodyPost_ret (by simp [results, Tryz.results121, go_sem, r0, r1, r2, r3, r4]; rfl) rfl ?_
        exact ⟨_, _, _, rfl, GX.out, HM.out, GA.out, GB.out⟩
      | false =>
        rw [h3] at C2
        cases h4 : tIs L st ⟨#[40]⟩ with
        | true =>
          rw [h4] at C3 CE
          have KQ := K h4
          have HM := Lib.hid (fun x s' => st_unit_par (x := x) (st1 := s') (d := d) HTL.out h1 h2 h3 h4)
          have KN := Lib.hid CN; have K1 := Lib.hid C1; have K2 := Lib.hid C2; have K3 := Lib.hid C3; have KE := Lib.hid CE; have KC := Lib.hid KQ; have HD := Lib.hid hd
          have HA0 := Lib.hid h
          have HLT := Lib.hid h.fix.lt; have HRW := Lib.hid h.fix.lt
          have hA := h.alloc (Obj.cells #[.int .i64 0, .int .i64 0, .string ⟨#[]⟩, .int .i64 0, .slice none 0 0] 25)
          have hB := (Butt.refl R w).alloc h.fix.lt (Obj.cells #[.int .i64 0, .int .i64 0, .string ⟨#[]⟩, .int .i64 0, .slice none 0 0] 25)
          have hX := Bx5.new w (.int .i64 0) (.int .i64 0) (.string ⟨#[]⟩) (.int .i64 0) (.slice none 0 0)
          have hpR : w.heap.size ≠ R := fun e => absurd h.fix.lt (by rw [e]; exact Nat.lt_irrefl _)
          have hls : w.heap.size < (w.alloc (Obj.cells #[.int .i64 0, .int .i64 0, .string ⟨#[]⟩, .int .i64 0, .slice none 0 0] 25)).heap.size := by simp
          have A0 := Lib.hid hA; have B0 := Lib.hid hB; have XR0 := Lib.hid hX; have HPR := Lib.hid hpR; have HLS := Lib.hid hls
          clear hA hB hX hpR hls h CN CK C1 C2 C3 CE CP K KQ hd h1 h2 h3 h4 hfi HTL
          go_enter Tryz.func121, Tryz.ntmps121
          go_wp2_with (go_at_call 145; refine (KN.out _ A0.out).mono ?_; rintro e w1 ⟨rfl, ha1, hb1⟩; refine Hid.out ?_)
          have A1 := Lib.hid ha1; have B1 := Lib.hid (B0.out.trans hb1)
          have XR1 := Lib.hid (XR0.out.butt HPR.out hb1)
          clear ha1 hb1
          refine Lib.hid ?_
          go_wp2_with (go_at_call 57; refine (K1.out _ A1.out).mono ?_; rintro e w2 ⟨rfl, ha2, hb2⟩; refine Hid.out ?_)
          have A2 := Lib.hid ha2; have B2 := Lib.hid (B1.out.trans hb2)
          have XR2 := Lib.hid (XR1.out.butt HPR.out hb2)
          clear ha2 hb2
          refine Lib.hid ?_
          go_wp2_with (go_at_call 57; refine (K2.out _ A2.out).mono ?_; rintro e w3 ⟨rfl, ha3, hb3⟩; refine Hid.out ?_)
          have A3 := Lib.hid ha3; have B3 := Lib.hid (B2.out.trans hb3)
          have XR3 := Lib.hid (XR2.out.butt HPR.out hb3)
          clear ha3 hb3
          refine Lib.hid ?_
          go_wp2_with (go_at_call 57; refine (K3.out _ A3.out).mono ?_; rintro e w4 ⟨rfl, ha4, hb4⟩; refine Hid.out ?_)
          have A4 := Lib.hid ha4; have B4 := Lib.hid (B3.out.trans hb4)
          have XR4 := Lib.hid (XR3.out.butt HPR.out hb4)
          clear ha4 hb4
          refine Lib.hid ?_
          go_wp2_with (go_at_call 114; refine (KE.out _ A4.out).mono ?_; rintro e w5 ⟨rfl, ha5, hb5⟩; refine Hid.out ?_)
          have A5 := Lib.hid ha5; have B5 := Lib.hid (B4.out.trans hb5)
          have XR5 := Lib.hid (XR4.out.butt HPR.out hb5)
          clear ha5 hb5
          refine Lib.hid ?_
          go_wp2_with (go_at_call 41; refine (KC.out _ A5.out).mono ?_; rintro e w6 ⟨x6, v6, s6, rfl, hx6, hs6, ha6, hb6⟩; refine Hid.out ?_)
          obtain ⟨k6, a6, t6, n6, o6, l6, c6, q6, rfl, rfl, hk6⟩ := hx6.shape
          have HS6 := Lib.hid hs6
          have TR6 := Lib.hid (synIn.of (ps := [w.heap.size]) hx6 (Nat.le_trans (Nat.le_refl _) B5.out.size) (fun p hp => by simp only [List.mem_cons, List.not_mem_nil, or_false] at hp; have g0 := XR5.out.lt; omega))
          have A6 := Lib.hid ha6; have B6 := Lib.hid (B5.out.trans hb6)
          have XR6 := Lib.hid (XR5.out.butt HPR.out hb6)
          clear ha6 hb6 hx6 hk6 hs6
          refine Lib.hid ?_
          have A6a := Lib.hid (A6.out.alloc (Obj.cells #[.int .i64 k6, .int .i64 a6, .string t6, .int .i64 n6, .slice o6 l6 c6] 25)); have B6a := Lib.hid (B6.out.alloc HRW.out (Obj.cells #[.int .i64 k6, .int .i64 a6, .string t6, .int .i64 n6, .slice o6 l6 c6] 25))
          have XR6a := Lib.hid (XR6.out.alloc (Obj.cells #[.int .i64 k6, .int .i64 a6, .string t6, .int .i64 n6, .slice o6 l6 c6] 25))
          have TR66a := Lib.hid (TR6.out.butt HLT.out (Butt.of_below A6.out.fix.lt ((Below.refl _ _).alloc (Nat.le_refl _) (Obj.cells #[.int .i64 k6, .int .i64 a6, .string t6, .int .i64 n6, .slice o6 l6 c6] 25))))
          have PXX : Hid (w6.heap.size ≠ R) := Lib.hid (fun e => absurd (A6.out.fix.lt) (by rw [e]; exact Nat.lt_irrefl _))
          have XX6a := Lib.hid (Bx5.new w6 (.int .i64 k6) (.int .i64 a6) (.string t6) (.int .i64 n6) (.slice o6 l6 c6))
          go_wp2_with (go_at_call 55; refine (sexpect A6a.out ⟨#[41]⟩).mono ?_; rintro e w7 ⟨rfl, ha7, hb7⟩; refine Hid.out ?_)
          have A7 := Lib.hid ha7; have B7 := Lib.hid (B6a.out.trans hb7)
          have XR7 := Lib.hid (XR6a.out.butt HPR.out hb7)
          have XX7 := Lib.hid (XX6a.out.butt PXX.out hb7)
          have TR67 := Lib.hid (TR66a.out.butt HLT.out hb7)
          clear ha7 hb7
          refine Lib.hid ?_
          go_wp2_with (go_at_call 117; refine (sleave A7.out HD.out).mono ?_; rintro e w8 ⟨rfl, ha8, hb8⟩; refine Hid.out ?_)
          have A8 := Lib.hid ha8; have B8 := Lib.hid (B7.out.trans hb8)
          have XR8 := Lib.hid (XR7.out.butt HPR.out hb8)
          have XX8 := Lib.hid (XX7.out.butt PXX.out hb8)
          have TR68 := Lib.hid (TR67.out.butt HLT.out hb8)
          clear ha8 hb8
          refine Lib.hid ?_
          have zXX := XX8.out
          have yXX0 := zXX.c0
          have yXX1 := zXX.c1
          have yXX2 := zXX.c2
          have yXX3 := zXX.c3
          have yXX4 := zXX.c4
          clear zXX
          have FT := Lib.hid (store5 HA0.out B8.out A8.out XR8.out (Nat.le_refl _) (.int .i64 k6) (.int .i64 a6) (.string t6) (.int .i64 n6) (.slice o6 l6 c6) _ rfl)
          have GX := Lib.hid ((TR68.out).kept (by simp) FT.out.2.2.2).at
          have zXR := XR8.out
          have yXR0 := zXR.c0
          have yXR1 := zXR.c1
          have yXR2 := zXR.c2
          have yXR3 := zXR.c3
          have yXR4 := zXR.c4
          have fXR0 := zXR.free 0
          have fXR1 := zXR.free 1
          have fXR2 := zXR.free 2
          have fXR3 := zXR.free 3
          have fXR4 := zXR.free 4
          clear zXR
          obtain ⟨r0, r1, r2, r3, r4⟩ := FT.out.1
          have GA := Lib.hid FT.out.2.1; have GB := Lib.hid FT.out.2.2.1
          clear FT
          go_wp2
          refine bodyPost_ret (by simp [results, Tryz.results121, go_sem, r0, r1, r2, r3, r4]; rfl) rfl ?_
          exact ⟨_, _, _, rfl, GX.out, HM.out _ _ HS6.out, GA.out, GB.out⟩
        | false =>
          rw [h4] at C3
          have HM := Lib.hid (fun x s' => st_unit_place (x := x) (st' := s') (d := d) HTL.out h1 h2 h3 h4)
          have KN := Lib.hid CN; have K1 := Lib.hid C1; have K2 := Lib.hid C2; have K3 := Lib.hid C3; have KP := Lib.hid CP
          have HA0 := Lib.hid h
          have HLT := Lib.hid h.fix.lt; have HRW := Lib.hid h.fix.lt
          have hA := h.alloc (Obj.cells #[.int .i64 0, .int .i64 0, .string ⟨#[]⟩, .int .i64 0, .slice none 0 0] 25)
          have hB := (Butt.refl R w).alloc h.fix.lt (Obj.cells #[.int .i64 0, .int .i64 0, .string ⟨#[]⟩, .int .i64 0, .slice none 0 0] 25)
          have hX := Bx5.new w (.int .i64 0) (.int .i64 0) (.string ⟨#[]⟩) (.int .i64 0) (.slice none 0 0)
          have hpR : w.heap.size ≠ R := fun e => absurd h.fix.lt (by rw [e]; exact Nat.lt_irrefl _)
          have hls : w.heap.size < (w.alloc (Obj.cells #[.int .i64 0, .int .i64 0, .string ⟨#[]⟩, .int .i64 0, .slice none 0 0] 25)).heap.size := by simp
          have A0 := Lib.hid hA; have B0 := Lib.hid hB; have XR0 := Lib.hid hX; have HPR := Lib.hid hpR; have HLS := Lib.hid hls
          clear hA hB hX hpR hls h CN CK C1 C2 C3 CE CP K hd h1 h2 h3 h4 hfi HTL
          go_enter Tryz.func121, Tryz.ntmps121
          go_wp2_with (go_at_call 145; refine (KN.out _ A0.out).mono ?_; rintro e w1 ⟨rfl, ha1, hb1⟩; refine Hid.out ?_)
          have A1 := Lib.hid ha1; have B1 := Lib.hid (B0.out.trans hb1)
          have XR1 := Lib.hid (XR0.out.butt HPR.out hb1)
          clear ha1 hb1
          refine Lib.hid ?_
          go_wp2_with (go_at_call 57; refine (K1.out _ A1.out).mono ?_; rintro e w2 ⟨rfl, ha2, hb2⟩; refine Hid.out ?_)
          have A2 := Lib.hid ha2; have B2 := Lib.hid (B1.out.trans hb2)
          have XR2 := Lib.hid (XR1.out.butt HPR.out hb2)
          clear ha2 hb2
          refine Lib.hid ?_
          go_wp2_with (go_at_call 57; refine (K2.out _ A2.out).mono ?_; rintro e w3 ⟨rfl, ha3, hb3⟩; refine Hid.out ?_)
          have A3 := Lib.hid ha3; have B3 := Lib.hid (B2.out.trans hb3)
          have XR3 := Lib.hid (XR2.out.butt HPR.out hb3)
          clear ha3 hb3
          refine Lib.hid ?_
          go_wp2_with (go_at_call 57; refine (K3.out _ A3.out).mono ?_; rintro e w4 ⟨rfl, ha4, hb4⟩; refine Hid.out ?_)
          have A4 := Lib.hid ha4; have B4 := Lib.hid (B3.out.trans hb4)
          have XR4 := Lib.hid (XR3.out.butt HPR.out hb4)
          clear ha4 hb4
          refine Lib.hid ?_
          go_wp2_with (go_at_call 146; refine (KP.out _ A4.out).mono ?_; rintro e w5 ⟨x5, v5, s5, rfl, hx5, hs5, ha5, hb5⟩; refine Hid.out ?_)
          obtain ⟨k5, a5, t5, n5, o5, l5, c5, q5, rfl, rfl, hk5⟩ := hx5.shape
          have HS5 := Lib.hid hs5
          have TR5 := Lib.hid (synIn.of (ps := [w.heap.size]) hx5 (Nat.le_trans (Nat.le_refl _) B4.out.size) (fun p hp => by simp only [List.mem_cons, List.not_mem_nil, or_false] at hp; have g0 := XR4.out.lt; omega))
          have A5 := Lib.hid ha5; have B5 := Lib.hid (B4.out.trans hb5)
          have XR5 := Lib.hid (XR4.out.butt HPR.out hb5)
          clear ha5 hb5 hx5 hk5 hs5
          refine Lib.hid ?_
          have FT := Lib.hid (store5 HA0.out B5.out A5.out XR5.out (Nat.le_refl _) (.int .i64 k5) (.int .i64 a5) (.string t5) (.int .i64 n5) (.slice o5 l5 c5) _ rfl)
          have GX := Lib.hid ((TR5.out).kept (by simp) FT.out.2.2.2).at
          have zXR := XR5.out
          have yXR0 := zXR.c0
          have yXR1 := zXR.c1
          have yXR2 := zXR.c2
          have yXR3 := zXR.c3
          have yXR4 := zXR.c4
          have fXR0 := zXR.free 0
          have fXR1 := zXR.free 1
          have fXR2 := zXR.free 2
          have fXR3 := zXR.free 3
          have fXR4 := zXR.free 4
          clear zXR
          obtain ⟨r0, r1, r2, r3, r4⟩ := FT.out.1
          have GA := Lib.hid FT.out.2.1; have GB := Lib.hid FT.out.2.2.1
          clear FT
          go_wp2
          refine bodyPost_ret (by simp [results, Tryz.results121, go_sem, r0, r1, r2, r3, r4]; rfl) rfl ?_
          exact ⟨_, _, _, rfl, GX.out, HM.out _ _ HS5.out, GA.out, GB.out⟩
end Go.Proofs.YtdibcllakkjegaaGreatDoor
