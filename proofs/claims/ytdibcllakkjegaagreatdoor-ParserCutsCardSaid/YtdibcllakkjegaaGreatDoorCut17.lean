import Derived.Test.YtdibcllakkjegaaGreatDoorCut16

set_option linter.unusedVariables false
/-
  parser: right, claim, choice.
-/
set_option linter.unusedSimpArgs false
set_option linter.unusedVariables false
namespace Go.Proofs.YtdibcllakkjegaaGreatDoor
open Go Go.Proofs Go.RowKit Go.Sort
theorem bytes_ne {s : ByteArray} {l : List UInt8} (h : bytes s ≠ l) : (s.toList == (⟨l.toArray⟩ : ByteArray).toList) = false := by
  rw [Bool.eq_false_iff]
  intro e
  exact h (ba_bytes.mp ((Lib.bytes_beq_iff _ _).mp e))
theorem bytes_is {s : ByteArray} {l : List UInt8} (h : bytes s = l) : s = ⟨l.toArray⟩ := ba_bytes.mpr h
set_option maxRecDepth 20000 in
set_option maxHeartbeats 1000000 in
theorem pright {R : Nat} {L : List Tk} {d : Nat} {st : RSt} {w : World} (h : At R L w d st) (KL : ∀ W : World, At R L W d st → Calls Tryz.prog 164 #[.pointer (some ⟨R, 0, none⟩)] W (PS R L (fun x st' => ∃ a t i, x = .mk 16 a t 0 [i] ∧ Stp .load d st [x] st') d W)) (KC : GT 149 R L #[.pointer (some ⟨R, 0, none⟩)] .call d st) (KX : GT 46 R L #[.pointer (some ⟨R, 0, none⟩)] (.lvl 4) d st) :
    Calls Tryz.prog 150 #[.pointer (some ⟨R, 0, none⟩)] w (PT R L .right d st w) := by
  have hfi := h.fine
  have CI := fun W (H : At R L W d st) => sis H ⟨#[105, 110, 112, 117, 116]⟩
  have CN := fun W (H : At R L W d st) => sisName H
  have CF := fun W (H : At R L W d st) => sfollowing H
  have CT := fun W (H : At R L W d st) => stake H
  have hf := run_field_tok2
  cases h1 : tIs L st ⟨#[105, 110, 112, 117, 116]⟩ with
  | true =>
    rw [h1] at CI
    have HM := Lib.hid (right_in (d := d) hfi h1)
    generalize cur L st = T at *
    obtain ⟨ek, et, ea⟩ := T
    unfold tkA at *
    dsimp only at *
    have KI := Lib.hid CI; have KT := Lib.hid CT
    have HA0 := Lib.hid h
    have HLT := Lib.hid h.fix.lt; have HRW := Lib.hid h.fix.lt
    have hA := h.alloc (Obj.cells #[.int .i64 0, .int .i64 0, .string ⟨#[]⟩, .int .i64 0, .slice none 0 0] 25)
    have hB := (Butt.refl R w).alloc h.fix.lt (Obj.cells #[.int .i64 0, .int .i64 0, .string ⟨#[]⟩, .int .i64 0, .slice none 0 0] 25)
    have hX := Bx5.new w (.int .i64 0) (.int .i64 0) (.string ⟨#[]⟩) (.int .i64 0) (.slice none 0 0)
    have hpR : w.heap.size ≠ R := fun e => absurd h.fix.lt (by rw [e]; exact Nat.lt_irrefl _)
    have hls : w.heap.size < (w.alloc (Obj.cells #[.int .i64 0, .int .i64 0, .string ⟨#[]⟩, .int .i64 0, .slice none 0 0] 25)).heap.size := by simp
    have A0 := Lib.hid hA; have B0 := Lib.hid hB; have XR0 := Lib.hid hX; have HPR := Lib.hid hpR; have HLS := Lib.hid hls
    clear hA hB hX hpR hls h CI CN CF CT KL KC KX h1 hfi
    go_enter Tryz.func150, Tryz.ntmps150
    go_wp2_with (go_at_call 57; refine (KI.out _ A0.out).mono ?_; rintro e w1 ⟨rfl, ha1, hb1⟩; refine Hid.out ?_)
    have A1 := Lib.hid ha1; have B1 := Lib.hid (B0.out.trans hb1)
    have XR1 := Lib.hid (XR0.out.butt HPR.out hb1)
    clear ha1 hb1
    refine Lib.hid ?_
    go_wp2_with (go_at_call 110; refine (KT.out _ A1.out).mono ?_; rintro e w2 ⟨rfl, ha2, hb2⟩; refine Hid.out ?_)
    have A2 := Lib.hid ha2; have B2 := Lib.hid (B1.out.trans hb2)
    have XR2 := Lib.hid (XR1.out.butt HPR.out hb2)
    clear ha2 hb2
    refine Lib.hid ?_
    go_wp2_with (go_at_call 59; refine (pnode_any _ _ _ _ _ _ _).mono ?_; rintro e w3 ⟨rfl, hb3⟩; refine Hid.out ?_)
    have hbx := Butt.of_below (R := R) A2.out.fix.lt hb3
    have ha3 : At R L w3 _ _ := ⟨A2.out.fix.butt hbx, A2.out.rs.below hb3⟩
    have TN := Lib.hid (synIn_mk.mpr ⟨_, rfl, (Or.inl ⟨rfl, rfl⟩)⟩ : synIn (offs w.heap.size [w.heap.size]) w3 (.mk 15 ea ⟨#[]⟩ 0 []) _)
    have hb3 := hbx; clear hbx
    have A3 := Lib.hid ha3; have B3 := Lib.hid (B2.out.trans hb3)
    have XR3 := Lib.hid (XR2.out.butt HPR.out hb3)
    clear ha3 hb3
    refine Lib.hid ?_
    have FT := Lib.hid (store5 HA0.out B3.out A3.out XR3.out (Nat.le_refl _) (.int .i64 15) (.int .i64 ea) (.string ⟨#[]⟩) (.int .i64 0) (.slice none 0 0) _ rfl)
    have GX := Lib.hid ((TN.out).kept (by simp) FT.out.2.2.2).at
    have zXR := XR3.out
    have yXR0 := zXR.c0
    have yXR1 := zXR.c1
    have yXR2 := zXR.c2
    have yXR3 := zXR.c3
    have yXR4 := zXR.c4
    have fXR0 := zXR.free 0
    have fXR1 := zXR.free 1
    have fXR2 := zXR.free 2
    have fXR3 := zXR.free 3
    have fXR4 := zXR.free 4
    clear zXR
    obtain ⟨r0, r1, r2, r3, r4⟩ := FT.out.1
    have GA := Lib.hid FT.out.2.1; have GB := Lib.hid FT.out.2.2.1
    clear FT
    go_wp2
    refine bodyPost_ret (by simp [results, Tryz.results150, go_sem, r0, r1, r2, r3, r4]; rfl) rfl ?_
    exact ⟨_, _, _, rfl, GX.out, HM.out, GA.out, GB.out⟩
  | false =>
    rw [h1] at CI
    cases h2 : isN (cur L st) with
    | false =>
      rw [h2] at CN
      have HM := Lib.hid (fun x s' => right_expr (d := d) (xs := [x]) (st' := s') hfi h1 (.inl h2))
      have KI := Lib.hid CI; have KN := Lib.hid CN; have KE := Lib.hid KX
      have HA0 := Lib.hid h
      have HLT := Lib.hid h.fix.lt; have HRW := Lib.hid h.fix.lt
      have hA := h.alloc (Obj.cells #[.int .i64 0, .int .i64 0, .string ⟨#[]⟩, .int .i64 0, .slice none 0 0] 25)
      have hB := (Butt.refl R w).alloc h.fix.lt (Obj.cells #[.int .i64 0, .int .i64 0, .string ⟨#[]⟩, .int .i64 0, .slice none 0 0] 25)
      have hX := Bx5.new w (.int .i64 0) (.int .i64 0) (.string ⟨#[]⟩) (.int .i64 0) (.slice none 0 0)
      have hpR : w.heap.size ≠ R := fun e => absurd h.fix.lt (by rw [e]; exact Nat.lt_irrefl _)
      have hls : w.heap.size < (w.alloc (Obj.cells #[.int .i64 0, .int .i64 0, .string ⟨#[]⟩, .int .i64 0, .slice none 0 0] 25)).heap.size := by simp
      have A0 := Lib.hid hA; have B0 := Lib.hid hB; have XR0 := Lib.hid hX; have HPR := Lib.hid hpR; have HLS := Lib.hid hls
      clear hA hB hX hpR hls h CI CN CF CT KL KC KX h1 h2 hfi
      go_enter Tryz.func150, Tryz.ntmps150
      go_wp2_with (go_at_call 57; refine (KI.out _ A0.out).mono ?_; rintro e w1 ⟨rfl, ha1, hb1⟩; refine Hid.out ?_)
      have A1 := Lib.hid ha1; have B1 := Lib.hid (B0.out.trans hb1)
      have XR1 := Lib.hid (XR0.out.butt HPR.out hb1)
      clear ha1 hb1
      refine Lib.hid ?_
      go_wp2_with (go_at_call 111; refine (KN.out _ A1.out).mono ?_; rintro e w2 ⟨rfl, ha2, hb2⟩; refine Hid.out ?_)
      have A2 := Lib.hid ha2; have B2 := Lib.hid (B1.out.trans hb2)
      have XR2 := Lib.hid (XR1.out.butt HPR.out hb2)
      clear ha2 hb2
      refine Lib.hid ?_
      go_wp2_with (go_at_call 111; refine (KN.out _ A2.out).mono ?_; rintro e w3 ⟨rfl, ha3, hb3⟩; refine Hid.out ?_)
      have A3 := Lib.hid ha3; have B3 := Lib.hid (B2.out.trans hb3)
      have XR3 := Lib.hid (XR2.out.butt HPR.out hb3)
      clear ha3 hb3
      refine Lib.hid ?_
      go_wp2_with (go_at_call 46; refine (KE.out _ A3.out).mono ?_; rintro e w4 ⟨x4, v4, s4, rfl, hx4, hs4, ha4, hb4⟩; refine Hid.out ?_)
      obtain ⟨k4, a4, t4, n4, o4, l4, c4, q4, rfl, rfl, hk4⟩ := hx4.shape
      have HS4 := Lib.hid hs4
      have TR4 := Lib.hid (synIn.of (ps := [w.heap.size]) hx4 (Nat.le_trans (Nat.le_refl _) B3.out.size) (fun p hp => by simp only [List.mem_cons, List.not_mem_nil, or_false] at hp; have g0 := XR3.out.lt; omega))
      have A4 := Lib.hid ha4; have B4 := Lib.hid (B3.out.trans hb4)
      have XR4 := Lib.hid (XR3.out.butt HPR.out hb4)
      clear ha4 hb4 hx4 hk4 hs4
      refine Lib.hid ?_
      have FT := Lib.hid (store5 HA0.out B4.out A4.out XR4.out (Nat.le_refl _) (.int .i64 k4) (.int .i64 a4) (.string t4) (.int .i64 n4) (.slice o4 l4 c4) _ rfl)
      have GX := Lib.hid ((TR4.out).kept (by simp) FT.out.2.2.2).at
      have zXR := XR4.out
      have yXR0 := zXR.c0
      have yXR1 := zXR.c1
      have yXR2 := zXR.c2
      have yXR3 := zXR.c3
      have yXR4 := zXR.c4
      have fXR0 := zXR.free 0
      have fXR1 := zXR.free 1
      have fXR2 := zXR.free 2
      have fXR3 := zXR.free 3
      have fXR4 := zXR.free 4
      clear zXR
      obtain ⟨r0, r1, r2, r3, r4⟩ := FT.out.1
      have GA := Lib.hid FT.out.2.1; have GB := Lib.hid FT.out.2.2.1
      clear FT
      go_wp2
      refine bodyPost_ret (by simp [results, Tryz.results150, go_sem, r0, r1, r2, r3, r4]; rfl) rfl ?_
      exact ⟨_, _, _, rfl, GX.out, HM.out _ _ HS4.out, GA.out, GB.out⟩
    | true =>
      rw [h2] at CN
      by_cases h3 : bytes (nextT L st) = [91]
      · have HM := Lib.hid (fun x s' => right_load (d := d) (xs := [x]) (st' := s') hfi h1 h2 h3)
        rw [bytes_is h3] at CF
        have KI := Lib.hid CI; have KN := Lib.hid CN; have KF := Lib.hid CF; have KE := Lib.hid KL
        have HA0 := Lib.hid h
        have HLT := Lib.hid h.fix.lt; have HRW := Lib.hid h.fix.lt
        have hA := h.alloc (Obj.cells #[.int .i64 0, .int .i64 0, .string ⟨#[]⟩, .int .i64 0, .slice none 0 0] 25)
        have hB := (Butt.refl R w).alloc h.fix.lt (Obj.cells #[.int .i64 0, .int .i64 0, .string ⟨#[]⟩, .int .i64 0, .slice none 0 0] 25)
        have hX := Bx5.new w (.int .i64 0) (.int .i64 0) (.string ⟨#[]⟩) (.int .i64 0) (.slice none 0 0)
        have hpR : w.heap.size ≠ R := fun e => absurd h.fix.lt (by rw [e]; exact Nat.lt_irrefl _)
        have hls : w.heap.size < (w.alloc (Obj.cells #[.int .i64 0, .int .i64 0, .string ⟨#[]⟩, .int .i64 0, .slice none 0 0] 25)).heap.size := by simp
        have A0 := Lib.hid hA; have B0 := Lib.hid hB; have XR0 := Lib.hid hX; have HPR := Lib.hid hpR; have HLS := Lib.hid hls
        clear hA hB hX hpR hls h CI CN CF CT KL KC KX h1 h2 h3 hfi
        go_enter Tryz.func150, Tryz.ntmps150
        go_wp2_with (go_at_call 57; refine (KI.out _ A0.out).mono ?_; rintro e w1 ⟨rfl, ha1, hb1⟩; refine Hid.out ?_)
        have A1 := Lib.hid ha1; have B1 := Lib.hid (B0.out.trans hb1)
        have XR1 := Lib.hid (XR0.out.butt HPR.out hb1)
        clear ha1 hb1
        refine Lib.hid ?_
        go_wp2_with (go_at_call 111; refine (KN.out _ A1.out).mono ?_; rintro e w2 ⟨rfl, ha2, hb2⟩; refine Hid.out ?_)
        have A2 := Lib.hid ha2; have B2 := Lib.hid (B1.out.trans hb2)
        have XR2 := Lib.hid (XR1.out.butt HPR.out hb2)
        clear ha2 hb2
        refine Lib.hid ?_
        go_wp2_with (go_at_call 147; refine (KF.out _ A2.out).mono ?_; rintro e w3 ⟨rfl, ha3, hb3⟩; refine Hid.out ?_)
        have A3 := Lib.hid ha3; have B3 := Lib.hid (B2.out.trans hb3)
        have XR3 := Lib.hid (XR2.out.butt HPR.out hb3)
        clear ha3 hb3
        refine Lib.hid ?_
        go_wp2_with (go_at_call 164; refine (KE.out _ A3.out).mono ?_; rintro e w4 ⟨x4, v4, s4, rfl, hx4, hs4, ha4, hb4⟩; refine Hid.out ?_)
        obtain ⟨k4, a4, t4, n4, o4, l4, c4, q4, rfl, rfl, hk4⟩ := hx4.shape
        have HS4 := Lib.hid hs4
        have TR4 := Lib.hid (synIn.of (ps := [w.heap.size]) hx4 (Nat.le_trans (Nat.le_refl _) B3.out.size) (fun p hp => by simp only [List.mem_cons, List.not_mem_nil, or_false] at hp; have g0 := XR3.out.lt; omega))
        have A4 := Lib.hid ha4; have B4 := Lib.hid (B3.out.trans hb4)
        have XR4 := Lib.hid (XR3.out.butt HPR.out hb4)
        clear ha4 hb4 hx4 hk4 hs4
        refine Lib.hid ?_
        obtain ⟨a', t', i', e', hst'⟩ := HS4.out
        have HST := Lib.hid hst'; clear hst' e'
        have FT := Lib.hid (store5 HA0.out B4.out A4.out XR4.out (Nat.le_refl _) (.int .i64 k4) (.int .i64 a4) (.string t4) (.int .i64 n4) (.slice o4 l4 c4) _ rfl)
        have GX := Lib.hid ((TR4.out).kept (by simp) FT.out.2.2.2).at
        have zXR := XR4.out
        have yXR0 := zXR.c0
        have yXR1 := zXR.c1
        have yXR2 := zXR.c2
        have yXR3 := zXR.c3
        have yXR4 := zXR.c4
        have fXR0 := zXR.free 0
        have fXR1 := zXR.free 1
        have fXR2 := zXR.free 2
        have fXR3 := zXR.free 3
        have fXR4 := zXR.free 4
        clear zXR
        obtain ⟨r0, r1, r2, r3, r4⟩ := FT.out.1
        have GA := Lib.hid FT.out.2.1; have GB := Lib.hid FT.out.2.2.1
        clear FT
        go_wp2
        refine bodyPost_ret (by simp [results, Tryz.results150, go_sem, r0, r1, r2, r3, r4]; rfl) rfl ?_
        exact ⟨_, _, _, rfl, GX.out, HM.out _ _ HST.out, GA.out, GB.out⟩
      · by_cases h4 : bytes (nextT L st) = [40]
        · have HM := Lib.hid (fun x s' => right_call (d := d) (xs := [x]) (st' := s') hfi h1 h2 h4)
          rw [bytes_is h4] at CF
          have KI := Lib.hid CI; have KN := Lib.hid CN; have KF := Lib.hid CF; have KE := Lib.hid KC
          have HA0 := Lib.hid h
          have HLT := Lib.hid h.fix.lt; have HRW := Lib.hid h.fix.lt
          have hA := h.alloc (Obj.cells #[.int .i64 0, .int .i64 0, .string ⟨#[]⟩, .int .i64 0, .slice none 0 0] 25)
          have hB := (Butt.refl R w).alloc h.fix.lt (Obj.cells #[.int .i64 0, .int .i64 0, .string ⟨#[]⟩, .int .i64 0, .slice none 0 0] 25)
          have hX := Bx5.new w (.int .i64 0) (.int .i64 0) (.string ⟨#[]⟩) (.int .i64 0) (.slice none 0 0)
          have hpR : w.heap.size ≠ R := fun e => absurd h.fix.lt (by rw [e]; exact Nat.lt_irrefl _)
          have hls : w.heap.size < (w.alloc (Obj.cells #[.int .i64 0, .int .i64 0, .string ⟨#[]⟩, .int .i64 0, .slice none 0 0] 25)).heap.size := by simp
          have A0 := Lib.hid hA; have B0 := Lib.hid hB; have XR0 := Lib.hid hX; have HPR := Lib.hid hpR; have HLS := Lib.hid hls
          clear hA hB hX hpR hls h CI CN CF CT KL KC KX h1 h2 h3 h4 hfi
          go_enter Tryz.func150, Tryz.ntmps150
          go_wp2_with (go_at_call 57; refine (KI.out _ A0.out).mono ?_; rintro e w1 ⟨rfl, ha1, hb1⟩; refine Hid.out ?_)
          have A1 := Lib.hid ha1; have B1 := Lib.hid (B0.out.trans hb1)
          have XR1 := Lib.hid (XR0.out.butt HPR.out hb1)
          clear ha1 hb1
          refine Lib.hid ?_
          go_wp2_with (go_at_call 111; refine (KN.out _ A1.out).mono ?_; rintro e w2 ⟨rfl, ha2, hb2⟩; refine Hid.out ?_)
          have A2 := Lib.hid ha2; have B2 := Lib.hid (B1.out.trans hb2)
          have XR2 := Lib.hid (XR1.out.butt HPR.out hb2)
          clear ha2 hb2
          refine Lib.hid ?_
          go_wp2_with (go_at_call 147; refine (KF.out _ A2.out).mono ?_; rintro e w3 ⟨rfl, ha3, hb3⟩; refine Hid.out ?_)
          have A3 := Lib.hid ha3; have B3 := Lib.hid (B2.out.trans hb3)
          have XR3 := Lib.hid (XR2.out.butt HPR.out hb3)
          clear ha3 hb3
          refine Lib.hid ?_
          go_wp2_with (go_at_call 111; refine (KN.out _ A3.out).mono ?_; rintro e w4 ⟨rfl, ha4, hb4⟩; refine Hid.out ?_)
          have A4 := Lib.hid ha4; have B4 := Lib.hid (B3.out.trans hb4)
          have XR4 := Lib.hid (XR3.out.butt HPR.out hb4)
          clear ha4 hb4
          refine Lib.hid ?_
          go_wp2_with (go_at_call 147; refine (KF.out _ A4.out).mono ?_; rintro e w5 ⟨rfl, ha5, hb5⟩; refine Hid.out ?_)
          have A5 := Lib.hid ha5; have B5 := Lib.hid (B4.out.trans hb5)
          have XR5 := Lib.hid (XR4.out.butt HPR.out hb5)
          clear ha5 hb5
          refine Lib.hid ?_
          go_wp2_with (go_at_call 149; refine (KE.out _ A5.out).mono ?_; rintro e w6 ⟨x6, v6, s6, rfl, hx6, hs6, ha6, hb6⟩; refine Hid.out ?_)
          obtain ⟨k6, a6, t6, n6, o6, l6, c6, q6, rfl, rfl, hk6⟩ := hx6.shape
          have HS6 := Lib.hid hs6
          have TR6 := Lib.hid (synIn.of (ps := [w.heap.size]) hx6 (Nat.le_trans (Nat.le_refl _) B5.out.size) (fun p hp => by simp only [List.mem_cons, List.not_mem_nil, or_false] at hp; have g0 := XR5.out.lt; omega))
          have A6 := Lib.hid ha6; have B6 := Lib.hid (B5.out.trans hb6)
          have XR6 := Lib.hid (XR5.out.butt HPR.out hb6)
          clear ha6 hb6 hx6 hk6 hs6
          refine Lib.hid ?_
          have FT := Lib.hid (store5 HA0.out B6.out A6.out XR6.out (Nat.le_refl _) (.int .i64 k6) (.int .i64 a6) (.string t6) (.int .i64 n6) (.slice o6 l6 c6) _ rfl)
          have GX := Lib.hid ((TR6.out).kept (by simp) FT.out.2.2.2).at
          have zXR := XR6.out
          have yXR0 := zXR.c0
          have yXR1 := zXR.c1
          have yXR2 := zXR.c2
          have yXR3 := zXR.c3
          have yXR4 := zXR.c4
          have fXR0 := zXR.free 0
          have fXR1 := zXR.free 1
          have fXR2 := zXR.free 2
          have fXR3 := zXR.free 3
          have fXR4 := zXR.free 4
          clear zXR
          obtain ⟨r0, r1, r2, r3, r4⟩ := FT.out.1
          have GA := Lib.hid FT.out.2.1; have GB := Lib.hid FT.out.2.2.1
          clear FT
          go_wp2
          refine bodyPost_ret (by simp [results, Tryz.results150, go_sem, r0, r1, r2, r3, r4]; rfl) rfl ?_
          exact ⟨_, _, _, rfl, GX.out, HM.out _ _ HS6.out, GA.out, GB.out⟩
        · have HM := Lib.hid (fun x s' => right_expr (d := d) (xs := [x]) (st' := s') hfi h1 (.inr ⟨h3, h4⟩))
          have e1 : ((nextT L st).toList == [91]) = false := by have := bytes_ne h3; simpa using this
          have e2 : ((nextT L st).toList == [40]) = false := by have := bytes_ne h4; simpa using this
          generalize nextT L st = NX at *
          have KI := Lib.hid CI; have KN := Lib.hid CN; have KF := Lib.hid CF; have KE := Lib.hid KX
          have HA0 := Lib.hid h
          have HLT := Lib.hid h.fix.lt; have HRW := Lib.hid h.fix.lt
          have hA := h.alloc (Obj.cells #[.int .i64 0, .int .i64 0, .string ⟨#[]⟩, .int .i64 0, .slice none 0 0] 25)
          have hB := (Butt.refl R w).alloc h.fix.lt (Obj.cells #[.int .i64 0, .int .i64 0, .string ⟨#[]⟩, .int .i64 0, .slice none 0 0] 25)
          have hX := Bx5.new w (.int .i64 0) (.int .i64 0) (.string ⟨#[]⟩) (.int .i64 0) (.slice none 0 0)
          have hpR : w.heap.size ≠ R := fun e => absurd h.fix.lt (by rw [e]; exact Nat.lt_irrefl _)
          have hls : w.heap.size < (w.alloc (Obj.cells #[.int .i64 0, .int .i64 0, .string ⟨#[]⟩, .int .i64 0, .slice none 0 0] 25)).heap.size := by simp
          have A0 := Lib.hid hA; have B0 := Lib.hid hB; have XR0 := Lib.hid hX; have HPR := Lib.hid hpR; have HLS := Lib.hid hls
          clear hA hB hX hpR hls h CI CN CF CT KL KC KX h1 h2 h3 h4 hfi
          go_enter Tryz.func150, Tryz.ntmps150
          go_wp2_with (go_at_call 57; refine (KI.out _ A0.out).mono ?_; rintro e w1 ⟨rfl, ha1, hb1⟩; refine Hid.out ?_)
          have A1 := Lib.hid ha1; have B1 := Lib.hid (B0.out.trans hb1)
          have XR1 := Lib.hid (XR0.out.butt HPR.out hb1)
          clear ha1 hb1
          refine Lib.hid ?_
          go_wp2_with (go_at_call 111; refine (KN.out _ A1.out).mono ?_; rintro e w2 ⟨rfl, ha2, hb2⟩; refine Hid.out ?_)
          have A2 := Lib.hid ha2; have B2 := Lib.hid (B1.out.trans hb2)
          have XR2 := Lib.hid (XR1.out.butt HPR.out hb2)
          clear ha2 hb2
          refine Lib.hid ?_
          go_wp2_with (go_at_call 147; refine (KF.out _ A2.out).mono ?_; rintro e w3 ⟨rfl, ha3, hb3⟩; refine Hid.out ?_)
          have A3 := Lib.hid ha3; have B3 := Lib.hid (B2.out.trans hb3)
          have XR3 := Lib.hid (XR2.out.butt HPR.out hb3)
          clear ha3 hb3
          refine Lib.hid ?_
          go_wp2_with (go_at_call 111; refine (KN.out _ A3.out).mono ?_; rintro e w4 ⟨rfl, ha4, hb4⟩; refine Hid.out ?_)
          have A4 := Lib.hid ha4; have B4 := Lib.hid (B3.out.trans hb4)
          have XR4 := Lib.hid (XR3.out.butt HPR.out hb4)
          clear ha4 hb4
          refine Lib.hid ?_
          go_wp2_with (go_at_call 147; refine (KF.out _ A4.out).mono ?_; rintro e w5 ⟨rfl, ha5, hb5⟩; refine Hid.out ?_)
          have A5 := Lib.hid ha5; have B5 := Lib.hid (B4.out.trans hb5)
          have XR5 := Lib.hid (XR4.out.butt HPR.out hb5)
          clear ha5 hb5
          refine Lib.hid ?_
          go_wp2_with (go_at_call 46; refine (KE.out _ A5.out).mono ?_; rintro e w6 ⟨x6, v6, s6, rfl, hx6, hs6, ha6, hb6⟩; refine Hid.out ?_)
          obtain ⟨k6, a6, t6, n6, o6, l6, c6, q6, rfl, rfl, hk6⟩ := hx6.shape
          have HS6 := Lib.hid hs6
          have TR6 := Lib.hid (synIn.of (ps := [w.heap.size]) hx6 (Nat.le_trans (Nat.le_refl _) B5.out.size) (fun p hp => by simp only [List.mem_cons, List.not_mem_nil, or_false] at hp; have g0 := XR5.out.lt; omega))
          have A6 := Lib.hid ha6; have B6 := Lib.hid (B5.out.trans hb6)
          have XR6 := Lib.hid (XR5.out.butt HPR.out hb6)
          clear ha6 hb6 hx6 hk6 hs6
          refine Lib.hid ?_
          have FT := Lib.hid (store5 HA0.out B6.out A6.out XR6.out (Nat.le_refl _) (.int .i64 k6) (.int .i64 a6) (.string t6) (.int .i64 n6) (.slice o6 l6 c6) _ rfl)
          have GX := Lib.hid ((TR6.out).kept (by simp) FT.out.2.2.2).at
          have zXR := XR6.out
          have yXR0 := zXR.c0
          have yXR1 := zXR.c1
          have yXR2 := zXR.c2
          have yXR3 := zXR.c3
          have yXR4 := zXR.c4
          have fXR0 := zXR.free 0
          have fXR1 := zXR.free 1
          have fXR2 := zXR.free 2
          have fXR3 := zXR.free 3
          have fXR4 := zXR.free 4
          clear zXR
          obtain ⟨r0, r1, r2, r3, r4⟩ := FT.out.1
          have GA := Lib.hid FT.out.2.1; have GB := Lib.hid FT.out.2.2.1
          clear FT
          go_wp2
          refine bodyPost_ret (by simp [results, Tryz.results150, go_sem, r0, r1, r2, r3, r4]; rfl) rfl ?_
          exact ⟨_, _, _, rfl, GX.out, HM.out _ _ HS6.out, GA.out, GB.out⟩
set_option maxRecDepth 20000 in
set_option maxHeartbeats 1000000 in
theorem pclaim {R : Nat} {L : List Tk} {d : Nat} {st : RSt} {w : World} (h : At R L w d st) (k : Int) (KX : GT 41 R L #[.pointer (some ⟨R, 0, none⟩)] (.lvl 0) d (takeS st)) :
    Calls Tryz.prog 126 #[.pointer (some ⟨R, 0, none⟩), .int .i64 k] w (PS R L (fun x st' => Run (mClaim k d) st [x] st') d w) := by
  have hfi := h.fine
  have CT := fun W (H : At R L W d st) => stake H
  have HM := Lib.hid (fun x s' => run_claim (L := L) (d := d) (k := k) (x := x) (s1 := s') hfi)
  generalize cur L st = T at *
  obtain ⟨ek, et, ea⟩ := T
  unfold tkA at *
  dsimp only at *
  have KT := Lib.hid CT; have KE := Lib.hid KX
  have HA0 := Lib.hid h
  have HLT := Lib.hid h.fix.lt; have HRW := Lib.hid h.fix.lt
  have hA := h.alloc (Obj.cells #[.int .i64 0, .int .i64 0, .string ⟨#[]⟩, .int .i64 0, .slice none 0 0] 25)
  have hB := (Butt.refl R w).alloc h.fix.lt (Obj.cells #[.int .i64 0, .int .i64 0, .string ⟨#[]⟩, .int .i64 0, .slice none 0 0] 25)
  have hX := Bx5.new w (.int .i64 0) (.int .i64 0) (.string ⟨#[]⟩) (.int .i64 0) (.slice none 0 0)
  have hpR : w.heap.size ≠ R := fun e => absurd h.fix.lt (by rw [e]; exact Nat.lt_irrefl _)
  have hls : w.heap.size < (w.alloc (Obj.cells #[.int .i64 0, .int .i64 0, .string ⟨#[]⟩, .int .i64 0, .slice none 0 0] 25)).heap.size := by simp
  have A0 := Lib.hid hA; have B0 := Lib.hid hB; have XR0 := Lib.hid hX; have HPR := Lib.hid hpR; have HLS := Lib.hid hls
  clear hA hB hX hpR hls h CT KX hfi
  go_enter Tryz.func126, Tryz.ntmps126
  go_wp2_with (go_at_call 110; refine (KT.out _ A0.out).mono ?_; rintro e w1 ⟨rfl, ha1, hb1⟩; refine Hid.out ?_)
  have A1 := Lib.hid ha1; have B1 := Lib.hid (B0.out.trans hb1)
  have XR1 := Lib.hid (XR0.out.butt HPR.out hb1)
  clear ha1 hb1
  refine Lib.hid ?_
  have A1a := Lib.hid (A1.out.alloc (Obj.cells #[.int .i64 ek, .string et, .int .i64 ea] 47)); have B1a := Lib.hid (B1.out.alloc HRW.out (Obj.cells #[.int .i64 ek, .string et, .int .i64 ea] 47))
  have XR1a := Lib.hid (XR1.out.alloc (Obj.cells #[.int .i64 ek, .string et, .int .i64 ea] 47))
  have PTT : Hid (w1.heap.size ≠ R) := Lib.hid (fun e => absurd (A1.out.fix.lt) (by rw [e]; exact Nat.lt_irrefl _))
  have TT1a := Lib.hid (Bx3.new w1 (.int .i64 ek) (.string et) (.int .i64 ea))
  go_wp2_with (go_at_call 41; refine (KE.out _ A1a.out).mono ?_; rintro e w2 ⟨x2, v2, s2, rfl, hx2, hs2, ha2, hb2⟩; refine Hid.out ?_)
  obtain ⟨k2, a2, t2, n2, o2, l2, c2, q2, rfl, rfl, hk2⟩ := hx2.shape
  have HS2 := Lib.hid hs2
  have TR2 := Lib.hid (synIn.of (ps := [w.heap.size]) hx2 (Nat.le_trans (Nat.le_refl _) B1a.out.size) (fun p hp => by simp only [List.mem_cons, List.not_mem_nil, or_false] at hp; have g0 := XR1a.out.lt; omega))
  have A2 := Lib.hid ha2; have B2 := Lib.hid (B1a.out.trans hb2)
  have XR2 := Lib.hid (XR1a.out.butt HPR.out hb2)
  have TT2 := Lib.hid (TT1a.out.butt PTT.out hb2)
  clear ha2 hb2 hx2 hk2 hs2
  refine Lib.hid ?_
  have A2a1 := Lib.hid (A2.out.alloc (Obj.cells #[.int .i64 k2, .int .i64 a2, .string t2, .int .i64 n2, .slice o2 l2 c2] 25)); have B2a1 := Lib.hid (B2.out.alloc HRW.out (Obj.cells #[.int .i64 k2, .int .i64 a2, .string t2, .int .i64 n2, .slice o2 l2 c2] 25))
  have XR2a1 := Lib.hid (XR2.out.alloc (Obj.cells #[.int .i64 k2, .int .i64 a2, .string t2, .int .i64 n2, .slice o2 l2 c2] 25))
  have TT2a1 := Lib.hid (TT2.out.alloc (Obj.cells #[.int .i64 k2, .int .i64 a2, .string t2, .int .i64 n2, .slice o2 l2 c2] 25))
  have TR22a1 := Lib.hid (TR2.out.butt HLT.out (Butt.of_below A2.out.fix.lt ((Below.refl _ _).alloc (Nat.le_refl _) (Obj.cells #[.int .i64 k2, .int .i64 a2, .string t2, .int .i64 n2, .slice o2 l2 c2] 25))))
  have PXX : Hid (w2.heap.size ≠ R) := Lib.hid (fun e => absurd (A2.out.fix.lt) (by rw [e]; exact Nat.lt_irrefl _))
  have XX2a1 := Lib.hid (Bx5.new w2 (.int .i64 k2) (.int .i64 a2) (.string t2) (.int .i64 n2) (.slice o2 l2 c2))
  go_wp2_with (go_at_call 55; refine (sexpect A2a1.out ⟨#[59]⟩).mono ?_; rintro e w3 ⟨rfl, ha3, hb3⟩; refine Hid.out ?_)
  have A3 := Lib.hid ha3; have B3 := Lib.hid (B2a1.out.trans hb3)
  have XR3 := Lib.hid (XR2a1.out.butt HPR.out hb3)
  have TT3 := Lib.hid (TT2a1.out.butt PTT.out hb3)
  have XX3 := Lib.hid (XX2a1.out.butt PXX.out hb3)
  have TR23 := Lib.hid (TR22a1.out.butt HLT.out hb3)
  clear ha3 hb3
  refine Lib.hid ?_
  have zTT := TT3.out
  have yTT0 := zTT.c0
  have yTT1 := zTT.c1
  have yTT2 := zTT.c2
  clear zTT
  have zXX := XX3.out
  have yXX0 := zXX.c0
  have yXX1 := zXX.c1
  have yXX2 := zXX.c2
  have yXX3 := zXX.c3
  have yXX4 := zXX.c4
  clear zXX
  have hAw : offs w.heap.size [w.heap.size] w3.heap.size := ⟨Nat.le_trans (Nat.le_refl _) B3.out.size, fun hp => by simp only [List.mem_cons, List.not_mem_nil, or_false] at hp; have g0 := XR3.out.lt; omega⟩
  have hki := kidsIn_new (flatIn.one (TR23.out)) (by simp) hAw 1 rfl
  have KI := Lib.hid hki
  clear hAw hki
  go_wp2_with (go_at_call 59; refine (pnode_any _ _ _ _ _ _ _).mono ?_; rintro e w4 ⟨rfl, hb4⟩; refine Hid.out ?_)
  have hbx := Butt.of_below (R := R) A3.out.fix.lt (Below.chain ((Below.refl _ _).alloc (Nat.le_refl _) (Obj.cells #[.int .i64 k2, .int .i64 a2, .string t2, .int .i64 n2, .slice o2 l2 c2] 25)) hb4)
  have ha4 : At R L w4 _ _ := ⟨A3.out.fix.butt hbx, A3.out.rs.below (Below.chain ((Below.refl _ _).alloc (Nat.le_refl _) (Obj.cells #[.int .i64 k2, .int .i64 a2, .string t2, .int .i64 n2, .slice o2 l2 c2] 25)) hb4)⟩
  have TN := Lib.hid (synIn_mk.mpr ⟨_, rfl, KI.out.below hb4⟩ : synIn (offs w.heap.size [w.heap.size]) w4 (.mk k ea ⟨#[]⟩ 0 [(.mk k2 a2 t2 n2 q2)]) _)
  have hb4 := hbx; clear hbx
  have A4 := Lib.hid ha4; have B4 := Lib.hid (B3.out.trans hb4)
  have XR4 := Lib.hid (XR3.out.butt HPR.out hb4)
  have TT4 := Lib.hid (TT3.out.butt PTT.out hb4)
  have XX4 := Lib.hid (XX3.out.butt PXX.out hb4)
  clear ha4 hb4
  refine Lib.hid ?_
  have FT := Lib.hid (store5 HA0.out B4.out A4.out XR4.out (Nat.le_refl _) (.int .i64 k) (.int .i64 ea) (.string ⟨#[]⟩) (.int .i64 0) (.slice (some ⟨w3.heap.size, 0, none⟩) 1 1) _ rfl)
  have GX := Lib.hid ((TN.out).kept (by simp) FT.out.2.2.2).at
  have zXR := XR4.out
  have yXR0 := zXR.c0
  have yXR1 := zXR.c1
  have yXR2 := zXR.c2
  have yXR3 := zXR.c3
  have yXR4 := zXR.c4
  have fXR0 := zXR.free 0
  have fXR1 := zXR.free 1
  have fXR2 := zXR.free 2
  have fXR3 := zXR.free 3
  have fXR4 := zXR.free 4
  clear zXR
  obtain ⟨r0, r1, r2, r3, r4⟩ := FT.out.1
  have GA := Lib.hid FT.out.2.1; have GB := Lib.hid FT.out.2.2.1
  clear FT
  go_wp2
  refine bodyPost_ret (by simp [results, Tryz.results126, go_sem, r0, r1, r2, r3, r4]; rfl) rfl ?_
  exact ⟨_, _, _, rfl, GX.out, HM.out _ _ HS2.out, GA.out, GB.out⟩
set_option maxRecDepth 20000 in
set_option maxHeartbeats 1000000 in
theorem pclaim1 {R : Nat} {L : List Tk} {d : Nat} {st : RSt} {w : World} (q : Nat) (hq : w.cell? ⟨q, 0, none⟩ = some (.pointer (some ⟨R, 0, none⟩))) (hqR : q ≠ R) (hql : q < w.heap.size) (h : At R L w d st) (KX : GT 41 R L #[.pointer (some ⟨R, 0, none⟩)] (.lvl 0) d (takeS st)) :
    Calls Tryz.prog 125 #[.pointer (some ⟨q, 0, none⟩)] w (PS R L (fun x st' => Run (mClaim 13 d) st [x] st') d w) := by
  have KE := Lib.hid (fun W (H : At R L W d st) => pclaim H 13 KX)
  have hq1 := ((Below.refl w.heap.size w).alloc (Nat.le_refl _) (Obj.cells #[.int .i64 0, .int .i64 0, .string ⟨#[]⟩, .int .i64 0, .slice none 0 0] 25)).cell (p := ⟨q, 0, none⟩) hql |>.trans hq
  have HA0 := Lib.hid h
  have HLT := Lib.hid h.fix.lt; have HRW := Lib.hid h.fix.lt
  have hA := h.alloc (Obj.cells #[.int .i64 0, .int .i64 0, .string ⟨#[]⟩, .int .i64 0, .slice none 0 0] 25)
  have hB := (Butt.refl R w).alloc h.fix.lt (Obj.cells #[.int .i64 0, .int .i64 0, .string ⟨#[]⟩, .int .i64 0, .slice none 0 0] 25)
  have hX := Bx5.new w (.int .i64 0) (.int .i64 0) (.string ⟨#[]⟩) (.int .i64 0) (.slice none 0 0)
  have hpR : w.heap.size ≠ R := fun e => absurd h.fix.lt (by rw [e]; exact Nat.lt_irrefl _)
  have hls : w.heap.size < (w.alloc (Obj.cells #[.int .i64 0, .int .i64 0, .string ⟨#[]⟩, .int .i64 0, .slice none 0 0] 25)).heap.size := by simp
  have A0 := Lib.hid hA; have B0 := Lib.hid hB; have XR0 := Lib.hid hX; have HPR := Lib.hid hpR; have HLS := Lib.hid hls
  clear hA hB hX hpR hls h KX hq hqR hql
  go_enter Tryz.func125, Tryz.ntmps125
  go_wp2_with (go_at_call 126; refine (KE.out _ A0.out).mono ?_; rintro e w1 ⟨x1, v1, s1, rfl, hx1, hs1, ha1, hb1⟩; refine Hid.out ?_)
  obtain ⟨k1, a1, t1, n1, o1, l1, c1, q1, rfl, rfl, hk1⟩ := hx1.shape
  have HS1 := Lib.hid hs1
  have TR1 := Lib.hid (synIn.of (ps := [w.heap.size]) hx1 (Nat.le_trans (Nat.le_refl _) B0.out.size) (fun p hp => by simp only [List.mem_cons, List.not_mem_nil, or_false] at hp; have g0 := XR0.out.lt; omega))
  have A1 := Lib.hid ha1; have B1 := Lib.hid (B0.out.trans hb1)
  have XR1 := Lib.hid (XR0.out.butt HPR.out hb1)
  clear ha1 hb1 hx1 hk1 hs1
  refine Lib.hid ?_
  clear hq1
  have FT := Lib.hid (store5 HA0.out B1.out A1.out XR1.out (Nat.le_refl _) (.int .i64 k1) (.int .i64 a1) (.string t1) (.int .i64 n1) (.slice o1 l1 c1) _ rfl)
  have GX := Lib.hid ((TR1.out).kept (by simp) FT.out.2.2.2).at
  have zXR := XR1.out
  have yXR0 := zXR.c0
  have yXR1 := zXR.c1
  have yXR2 := zXR.c2
  have yXR3 := zXR.c3
  have yXR4 := zXR.c4
  have fXR0 := zXR.free 0
  have fXR1 := zXR.free 1
  have fXR2 := zXR.free 2
  have fXR3 := zXR.free 3
  have fXR4 := zXR.free 4
  clear zXR
  obtain ⟨r0, r1, r2, r3, r4⟩ := FT.out.1
  have GA := Lib.hid FT.out.2.1; have GB := Lib.hid FT.out.2.2.1
  clear FT
  go_wp2
  refine bodyPost_ret (by simp [results, Tryz.results125, go_sem, r0, r1, r2, r3, r4]; rfl) rfl ?_
  exact ⟨_, _, _, rfl, GX.out, HS1.out, GA.out, GB.out⟩
set_option maxRecDepth 20000 in
set_option maxHeartbeats 1000000 in
theorem pclaim2 {R : Nat} {L : List Tk} {d : Nat} {st : RSt} {w : World} (q : Nat) (hq : w.cell? ⟨q, 0, none⟩ = some (.pointer (some ⟨R, 0, none⟩))) (hqR : q ≠ R) (hql : q < w.heap.size) (h : At R L w d st) (KX : GT 41 R L #[.pointer (some ⟨R, 0, none⟩)] (.lvl 0) d (takeS st)) :
    Calls Tryz.prog 127 #[.pointer (some ⟨q, 0, none⟩)] w (PS R L (fun x st' => Run (mClaim 14 d) st [x] st') d w) := by
  have KE := Lib.hid (fun W (H : At R L W d st) => pclaim H 14 KX)
  have hq1 := ((Below.refl w.heap.size w).alloc (Nat.le_refl _) (Obj.cells #[.int .i64 0, .int .i64 0, .string ⟨#[]⟩, .int .i64 0, .slice none 0 0] 25)).cell (p := ⟨q, 0, none⟩) hql |>.trans hq
  have HA0 := Lib.hid h
  have HLT := Lib.hid h.fix.lt; have HRW := Lib.hid h.fix.lt
  have hA := h.alloc (Obj.cells #[.int .i64 0, .int .i64 0, .string ⟨#[]⟩, .int .i64 0, .slice none 0 0] 25)
  have hB := (Butt.refl R w).alloc h.fix.lt (Obj.cells #[.int .i64 0, .int .i64 0, .string ⟨#[]⟩, .int .i64 0, .slice none 0 0] 25)
  have hX := Bx5.new w (.int .i64 0) (.int .i64 0) (.string ⟨#[]⟩) (.int .i64 0) (.slice none 0 0)
  have hpR : w.heap.size ≠ R := fun e => absurd h.fix.lt (by rw [e]; exact Nat.lt_irrefl _)
  have hls : w.heap.size < (w.alloc (Obj.cells #[.int .i64 0, .int .i64 0, .string ⟨#[]⟩, .int .i64 0, .slice none 0 0] 25)).heap.size := by simp
  have A0 := Lib.hid hA; have B0 := Lib.hid hB; have XR0 := Lib.hid hX; have HPR := Lib.hid hpR; have HLS := Lib.hid hls
  clear hA hB hX hpR hls h KX hq hqR hql
  go_enter Tryz.func127, Tryz.ntmps127
  go_wp2_with (go_at_call 126; refine (KE.out _ A0.out).mono ?_; rintro e w1 ⟨x1, v1, s1, rfl, hx1, hs1, ha1, hb1⟩; refine Hid.out ?_)
  obtain ⟨k1, a1, t1, n1, o1, l1, c1, q1, rfl, rfl, hk1⟩ := hx1.shape
  have HS1 := Lib.hid hs1
  have TR1 := Lib.hid (synIn.of (ps := [w.heap.size]) hx1 (Nat.le_trans (Nat.le_refl _) B0.out.size) (fun p hp => by simp only [List.mem_cons, List.not_mem_nil, or_false] at hp; have g0 := XR0.out.lt; omega))
  have A1 := Lib.hid ha1; have B1 := Lib.hid (B0.out.trans hb1)
  have XR1 := Lib.hid (XR0.out.butt HPR.out hb1)
  clear ha1 hb1 hx1 hk1 hs1
  refine Lib.hid ?_
  clear hq1
  have FT := Lib.hid (store5 HA0.out B1.out A1.out XR1.out (Nat.le_refl _) (.int .i64 k1) (.int .i64 a1) (.string t1) (.int .i64 n1) (.slice o1 l1 c1) _ rfl)
  have GX := Lib.hid ((TR1.out).kept (by simp) FT.out.2.2.2).at
  have zXR := XR1.out
  have yXR0 := zXR.c0
  have yXR1 := zXR.c1
  have yXR2 := zXR.c2
  have yXR3 := zXR.c3
  have yXR4 := zXR.c4
  have fXR0 := zXR.free 0
  have fXR1 := zXR.free 1
  have fXR2 := zXR.free 2
  have fXR3 := zXR.free 3
  have fXR4 := zXR.free 4
  clear zXR
  obtain ⟨r0, r1, r2, r3, r4⟩ := FT.out.1
  have GA := Lib.hid FT.out.2.1; have GB := Lib.hid FT.out.2.2.1
  clear FT
  go_wp2
  refine bodyPost_ret (by simp [results, Tryz.results127, go_sem, r0, r1, r2, r3, r4]; rfl) rfl ?_
  exact ⟨_, _, _, rfl, GX.out, HS1.out, GA.out, GB.out⟩
set_option maxRecDepth 20000 in
set_option maxHeartbeats 1000000 in
theorem pchoice {R : Nat} {L : List Tk} {d : Nat} {st : RSt} {w : World} (h : At R L w d st) (hi : tIs L st ⟨#[105, 102]⟩ = true) (KB : ∀ t : Tk, t = cur L st → GT 151 R L #[.pointer (some ⟨R, 0, none⟩), tkA t] (.chain t.a) d (takeS st)) :
    Calls Tryz.prog 123 #[.pointer (some ⟨R, 0, none⟩)] w (PT R L (.chain (cur L st).a) d (takeS st) w) := by
  have CE := fun W (H : At R L W d st) => sexpect H ⟨#[105, 102]⟩
  rw [hi] at CE
  have KB := KB _ rfl
  have e : needS true st = takeS st := by cases st <;> rfl
  rw [e, tokM_true] at CE
  generalize cur L st = T at *
  have KE := Lib.hid CE; have KQ := Lib.hid KB
  have HA0 := Lib.hid h
  have HLT := Lib.hid h.fix.lt; have HRW := Lib.hid h.fix.lt
  have hA := h.alloc (Obj.cells #[.int .i64 0, .int .i64 0, .string ⟨#[]⟩, .int .i64 0, .slice none 0 0] 25)
  have hB := (Butt.refl R w).alloc h.fix.lt (Obj.cells #[.int .i64 0, .int .i64 0, .string ⟨#[]⟩, .int .i64 0, .slice none 0 0] 25)
  have hX := Bx5.new w (.int .i64 0) (.int .i64 0) (.string ⟨#[]⟩) (.int .i64 0) (.slice none 0 0)
  have hpR : w.heap.size ≠ R := fun e => absurd h.fix.lt (by rw [e]; exact Nat.lt_irrefl _)
  have hls : w.heap.size < (w.alloc (Obj.cells #[.int .i64 0, .int .i64 0, .string ⟨#[]⟩, .int .i64 0, .slice none 0 0] 25)).heap.size := by simp
  have A0 := Lib.hid hA; have B0 := Lib.hid hB; have XR0 := Lib.hid hX; have HPR := Lib.hid hpR; have HLS := Lib.hid hls
  clear hA hB hX hpR hls h CE KB hi e
  go_enter Tryz.func123, Tryz.ntmps123
  go_wp2_with (go_at_call 55; refine (KE.out _ A0.out).mono ?_; rintro e w1 ⟨rfl, ha1, hb1⟩; refine Hid.out ?_)
  have A1 := Lib.hid ha1; have B1 := Lib.hid (B0.out.trans hb1)
  have XR1 := Lib.hid (XR0.out.butt HPR.out hb1)
  clear ha1 hb1
  refine Lib.hid ?_
  go_wp2_with (go_at_call 151; refine (KQ.out _ A1.out).mono ?_; rintro e w2 ⟨x2, v2, s2, rfl, hx2, hs2, ha2, hb2⟩; refine Hid.out ?_)
  obtain ⟨k2, a2, t2, n2, o2, l2, c2, q2, rfl, rfl, hk2⟩ := hx2.shape
  have HS2 := Lib.hid hs2
  have TR2 := Lib.hid (synIn.of (ps := [w.heap.size]) hx2 (Nat.le_trans (Nat.le_refl _) B1.out.size) (fun p hp => by simp only [List.mem_cons, List.not_mem_nil, or_false] at hp; have g0 := XR1.out.lt; omega))
  have A2 := Lib.hid ha2; have B2 := Lib.hid (B1.out.trans hb2)
  have XR2 := Lib.hid (XR1.out.butt HPR.out hb2)
  clear ha2 hb2 hx2 hk2 hs2
  refine Lib.hid ?_
  have FT := Lib.hid (store5 HA0.out B2.out A2.out XR2.out (Nat.le_refl _) (.int .i64 k2) (.int .i64 a2) (.string t2) (.int .i64 n2) (.slice o2 l2 c2) _ rfl)
  have GX := Lib.hid ((TR2.out).kept (by simp) FT.out.2.2.2).at
  have zXR := XR2.out
  have yXR0 := zXR.c0
  have yXR1 := zXR.c1
  have yXR2 := zXR.c2
  have yXR3 := zXR.c3
  have yXR4 := zXR.c4
  have fXR0 := zXR.free 0
  have fXR1 := zXR.free 1
  have fXR2 := zXR.free 2
  have fXR3 := zXR.free 3
  have fXR4 := zXR.free 4
  clear zXR
  obtain ⟨r0, r1, r2, r3, r4⟩ := FT.out.1
  have GA := Lib.hid FT.out.2.1; have GB := Lib.hid FT.out.2.2.1
  clear FT
  go_wp2
  refine bodyPost_ret (by simp [results, Tryz.results123, go_sem, r0, r1, r2, r3, r4]; rfl) rfl ?_
  exact ⟨_, _, _, rfl, GX.out, HS2.out, GA.out, GB.out⟩
end Go.Proofs.YtdibcllakkjegaaGreatDoor
