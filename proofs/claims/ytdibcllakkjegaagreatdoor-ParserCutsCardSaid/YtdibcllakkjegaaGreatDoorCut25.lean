import Derived.Deep.RegionWith
import Derived.Test.YtdibcllakkjegaaGreatDoorCut18

set_option linter.unusedVariables false
/-
  parser: assignment.
-/
set_option linter.unusedSimpArgs false
set_option linter.unusedVariables false
namespace Go.Proofs.YtdibcllakkjegaaGreatDoor
open Go Go.Proofs Go.RowKit Go.Sort
set_option maxRecDepth 20000 in
set_option maxHeartbeats 4000000 in
theorem passignment {R : Nat} {L : List Tk} {d : Nat} {st : RSt} {w : World} (h : At R L w d st) (hn : isN (cur L st) = true) (KS : ∀ W : World, At R L W d st → Calls Tryz.prog 148 #[.pointer (some ⟨R, 0, none⟩)] W (PS R L (fun x st' => ∃ a t i y s1, x = .mk 10 a t 0 [i, y] ∧ Stp .load d st [.mk 16 a t 0 [i]] s1 ∧ Stp (.lvl 4) d (needS (tIs L s1 ⟨#[58, 61]⟩) s1) [y] st') d W)) (KC : GT 149 R L #[.pointer (some ⟨R, 0, none⟩)] .call d st) (KR : ∀ s : RSt, s.rem ≤ st.rem → GT 150 R L #[.pointer (some ⟨R, 0, none⟩)] .right d s) :
    Calls Tryz.prog 122 #[.pointer (some ⟨R, 0, none⟩)] w (PT R L .stmt d st w) := by
  have hfi := h.fine
  have CH := fun W (H : At R L W d st) => shere H
  have CF := fun W (H : At R L W d st) => sfollowing H
  by_cases h3 : bytes (nextT L st) = [91]
  · have HM := Lib.hid (fun a t i y s1 s2 => stmt_store (L := L) (d := d) (y := y) (s1 := s1) (s2 := s2) hfi hn h3 (a := a) (t := t) (i := i))
    rw [bytes_is h3] at CF
    generalize (cur L st).a = ea at *
    have KH := Lib.hid CH; have KF := Lib.hid CF; have KK := Lib.hid KS; have KL := Lib.hid KC; have KQ := Lib.hid KR
    have HA0 := Lib.hid h
    have HLT := Lib.hid h.fix.lt; have HRW := Lib.hid h.fix.lt
    have hA := h.alloc (Obj.cells #[.int .i64 0, .int .i64 0, .string ⟨#[]⟩, .int .i64 0, .slice none 0 0] 25)
    have hB := (Butt.refl R w).alloc h.fix.lt (Obj.cells #[.int .i64 0, .int .i64 0, .string ⟨#[]⟩, .int .i64 0, .slice none 0 0] 25)
    have hX := Bx5.new w (.int .i64 0) (.int .i64 0) (.string ⟨#[]⟩) (.int .i64 0) (.slice none 0 0)
    have hpR : w.heap.size ≠ R := fun e => absurd h.fix.lt (by rw [e]; exact Nat.lt_irrefl _)
    have hls : w.heap.size < (w.alloc (Obj.cells #[.int .i64 0, .int .i64 0, .string ⟨#[]⟩, .int .i64 0, .slice none 0 0] 25)).heap.size := by simp
    have A0 := Lib.hid hA; have B0 := Lib.hid hB; have XR0 := Lib.hid hX; have HPR := Lib.hid hpR; have HLS := Lib.hid hls
    clear hA hB hX hpR hls h CH CF KS KC KR hn hfi h3
    go_enter Tryz.func122, Tryz.ntmps122
    go_wp2_with (go_at_call 56; refine (KH.out _ A0.out).mono ?_; rintro e w1 ⟨rfl, ha1, hb1⟩; refine Hid.out ?_)
    have A1 := Lib.hid ha1; have B1 := Lib.hid (B0.out.trans hb1)
    have XR1 := Lib.hid (XR0.out.butt HPR.out hb1)
    clear ha1 hb1
    refine Lib.hid ?_
    have H1P : Hid (w.heap.size ≠ w1.heap.size) := Lib.hid (fun e => by have := XR1.out.lt; omega)
    have HB1 : Hid (w.heap.size ≤ w1.heap.size) := Lib.hid B1.out.size
    have A1a := Lib.hid (A1.out.alloc (Obj.cells #[.int .i64 0, .int .i64 0, .string ⟨#[]⟩, .int .i64 0, .slice none 0 0] 25)); have B1a := Lib.hid (B1.out.alloc HRW.out (Obj.cells #[.int .i64 0, .int .i64 0, .string ⟨#[]⟩, .int .i64 0, .slice none 0 0] 25))
    have XR1a := Lib.hid (XR1.out.alloc (Obj.cells #[.int .i64 0, .int .i64 0, .string ⟨#[]⟩, .int .i64 0, .slice none 0 0] 25))
    have PXT : Hid (w1.heap.size ≠ R) := Lib.hid (fun e => absurd (A1.out.fix.lt) (by rw [e]; exact Nat.lt_irrefl _))
    have XT1a := Lib.hid (Bx5.new w1 (.int .i64 0) (.int .i64 0) (.string ⟨#[]⟩) (.int .i64 0) (.slice none 0 0))
    go_wp2_with (go_at_call 147; refine (KF.out _ A1a.out).mono ?_; rintro e w2 ⟨rfl, ha2, hb2⟩; refine Hid.out ?_)
    have A2 := Lib.hid ha2; have B2 := Lib.hid (B1a.out.trans hb2)
    have XR2 := Lib.hid (XR1a.out.butt HPR.out hb2)
    have XT2 := Lib.hid (XT1a.out.butt PXT.out hb2)
    clear ha2 hb2
    refine Lib.hid ?_
    go_wp2_with (go_at_call 148; refine (KK.out _ A2.out).mono ?_; rintro e w3 ⟨x3, v3, s3, rfl, hx3, hs3, ha3, hb3⟩; refine Hid.out ?_)
    obtain ⟨k3, a3, t3, n3, o3, l3, c3, q3, rfl, rfl, hk3⟩ := hx3.shape
    have HS3 := Lib.hid hs3
    have TR3 := Lib.hid (synIn.of (ps := [w.heap.size, w1.heap.size]) hx3 (Nat.le_trans (Nat.le_refl _) B2.out.size) (fun p hp => by simp only [List.mem_cons, List.not_mem_nil, or_false] at hp; have g0 := XR2.out.lt; have g1 := XT2.out.lt; omega))
    have A3 := Lib.hid ha3; have B3 := Lib.hid (B2.out.trans hb3)
    have XR3 := Lib.hid (XR2.out.butt HPR.out hb3)
    have XT3 := Lib.hid (XT2.out.butt PXT.out hb3)
    clear ha3 hb3 hx3 hk3 hs3
    refine Lib.hid ?_
    obtain ⟨a', t', i', y', s', e', hs1, hs2⟩ := HS3.out
    cases e'
    have HS1' := Lib.hid hs1; have HS2' := Lib.hid hs2; clear hs1 hs2
    have FT := Lib.hid (store5 HA0.out B3.out A3.out XT3.out HB1.out (.int .i64 10) (.int .i64 a3) (.string t3) (.int .i64 0) (.slice o3 l3 c3) _ rfl)
    have zz := XT3.out
    have yXT0 := zz.c0
    have fXT0 := zz.free 0
    have yXT1 := zz.c1
    have fXT1 := zz.free 1
    have yXT2 := zz.c2
    have fXT2 := zz.free 2
    have yXT3 := zz.c3
    have fXT3 := zz.free 3
    have yXT4 := zz.c4
    have fXT4 := zz.free 4
    clear zz
    have A4s := Lib.hid FT.out.2.1; have B4s := Lib.hid FT.out.2.2.1; have XT4s := Lib.hid FT.out.1
    have XR4s := Lib.hid (XR3.out.kept H1P.out FT.out.2.2.2)
    have TR34s := Lib.hid (TR3.out.kept (by simp) FT.out.2.2.2)
    have TS4 := Lib.hid ((TR3.out).kept (by simp) FT.out.2.2.2)
    clear FT
    go_wp2_with (go_at_call 55; refine (sexpect A4s.out ⟨#[59]⟩).mono ?_; rintro e w5 ⟨rfl, ha5, hb5⟩; refine Hid.out ?_)
    have A5 := Lib.hid ha5; have B5 := Lib.hid (B4s.out.trans hb5)
    have XR5 := Lib.hid (XR4s.out.butt HPR.out hb5)
    have XT5 := Lib.hid (XT4s.out.butt PXT.out hb5)
    have TR35 := Lib.hid (TR34s.out.butt HLT.out hb5)
    have TS45 := Lib.hid (TS4.out.butt HLT.out hb5)
    clear ha5 hb5
    refine Lib.hid ?_
    have zXT := XT5.out
    have yXT0 := zXT.c0
    have yXT1 := zXT.c1
    have yXT2 := zXT.c2
    have yXT3 := zXT.c3
    have yXT4 := zXT.c4
    clear zXT
    have FT := Lib.hid (store5 HA0.out B5.out A5.out XR5.out (Nat.le_refl _) (.int .i64 10) (.int .i64 a3) (.string t3) (.int .i64 0) (.slice o3 l3 c3) _ rfl)
    have GX := Lib.hid ((TS45.out).kept (by simp) FT.out.2.2.2).at
    have zXR := XR5.out
    have yXR0 := zXR.c0
    have yXR1 := zXR.c1
    have yXR2 := zXR.c2
    have yXR3 := zXR.c3
    have yXR4 := zXR.c4
    have fXR0 := zXR.free 0
    have fXR1 := zXR.free 1
    have fXR2 := zXR.free 2
    have fXR3 := zXR.free 3
    have fXR4 := zXR.free 4
    clear zXR
    obtain ⟨r0, r1, r2, r3, r4⟩ := FT.out.1
    have GA := Lib.hid FT.out.2.1; have GB := Lib.hid FT.out.2.2.1
    clear FT
    go_wp2
    refine bodyPost_ret (by simp [results, Tryz.results122, go_sem, r0, r1, r2, r3, r4]; rfl) rfl ?_
    exact ⟨_, _, _, rfl, GX.out, HM.out _ _ _ _ _ _ HS1'.out HS2'.out, GA.out, GB.out⟩
  · by_cases h4 : bytes (nextT L st) = [40]
    · have HM := Lib.hid (fun x s1 => stmt_call (L := L) (d := d) (x := x) (s1 := s1) hfi hn h4)
      rw [bytes_is h4] at CF
      generalize (cur L st).a = ea at *
      have KH := Lib.hid CH; have KF := Lib.hid CF; have KK := Lib.hid KS; have KL := Lib.hid KC; have KQ := Lib.hid KR
      have HA0 := Lib.hid h
      have HLT := Lib.hid h.fix.lt; have HRW := Lib.hid h.fix.lt
      have hA := h.alloc (Obj.cells #[.int .i64 0, .int .i64 0, .string ⟨#[]⟩, .int .i64 0, .slice none 0 0] 25)
      have hB := (Butt.refl R w).alloc h.fix.lt (Obj.cells #[.int .i64 0, .int .i64 0, .string ⟨#[]⟩, .int .i64 0, .slice none 0 0] 25)
      have hX := Bx5.new w (.int .i64 0) (.int .i64 0) (.string ⟨#[]⟩) (.int .i64 0) (.slice none 0 0)
      have hpR : w.heap.size ≠ R := fun e => absurd h.fix.lt (by rw [e]; exact Nat.lt_irrefl _)
      have hls : w.heap.size < (w.alloc (Obj.cells #[.int .i64 0, .int .i64 0, .string ⟨#[]⟩, .int .i64 0, .slice none 0 0] 25)).heap.size := by simp
      have A0 := Lib.hid hA; have B0 := Lib.hid hB; have XR0 := Lib.hid hX; have HPR := Lib.hid hpR; have HLS := Lib.hid hls
      clear hA hB hX hpR hls h CH CF KS KC KR hn hfi h3 h4
      go_enter Tryz.func122, Tryz.ntmps122
      go_wp2_with (go_at_call 56; refine (KH.out _ A0.out).mono ?_; rintro e w1 ⟨rfl, ha1, hb1⟩; refine Hid.out ?_)
      have A1 := Lib.hid ha1; have B1 := Lib.hid (B0.out.trans hb1)
      have XR1 := Lib.hid (XR0.out.butt HPR.out hb1)
      clear ha1 hb1
      refine Lib.hid ?_
      have H1P : Hid (w.heap.size ≠ w1.heap.size) := Lib.hid (fun e => by have := XR1.out.lt; omega)
      have HB1 : Hid (w.heap.size ≤ w1.heap.size) := Lib.hid B1.out.size
      have A1a := Lib.hid (A1.out.alloc (Obj.cells #[.int .i64 0, .int .i64 0, .string ⟨#[]⟩, .int .i64 0, .slice none 0 0] 25)); have B1a := Lib.hid (B1.out.alloc HRW.out (Obj.cells #[.int .i64 0, .int .i64 0, .string ⟨#[]⟩, .int .i64 0, .slice none 0 0] 25))
      have XR1a := Lib.hid (XR1.out.alloc (Obj.cells #[.int .i64 0, .int .i64 0, .string ⟨#[]⟩, .int .i64 0, .slice none 0 0] 25))
      have PXT : Hid (w1.heap.size ≠ R) := Lib.hid (fun e => absurd (A1.out.fix.lt) (by rw [e]; exact Nat.lt_irrefl _))
      have XT1a := Lib.hid (Bx5.new w1 (.int .i64 0) (.int .i64 0) (.string ⟨#[]⟩) (.int .i64 0) (.slice none 0 0))
      go_wp2_with (go_at_call 147; refine (KF.out _ A1a.out).mono ?_; rintro e w2 ⟨rfl, ha2, hb2⟩; refine Hid.out ?_)
      have A2 := Lib.hid ha2; have B2 := Lib.hid (B1a.out.trans hb2)
      have XR2 := Lib.hid (XR1a.out.butt HPR.out hb2)
      have XT2 := Lib.hid (XT1a.out.butt PXT.out hb2)
      clear ha2 hb2
      refine Lib.hid ?_
      go_wp2_with (go_at_call 59; refine (pnode_any _ _ _ _ _ _ _).mono ?_; rintro e w3 ⟨rfl, hbl3⟩; refine Hid.out ?_)
      have ha3 := A2.out.below hbl3; have hb3 := Butt.of_below (R := R) A2.out.fix.lt hbl3; clear hbl3
      have A3 := Lib.hid ha3; have B3 := Lib.hid (B2.out.trans hb3)
      have XR3 := Lib.hid (XR2.out.butt HPR.out hb3)
      have XT3 := Lib.hid (XT2.out.butt PXT.out hb3)
      clear ha3 hb3
      refine Lib.hid ?_
      go_wp2_with (go_at_call 149; refine (KL.out _ A3.out).mono ?_; rintro e w4 ⟨x4, v4, s4, rfl, hx4, hs4, ha4, hb4⟩; refine Hid.out ?_)
      obtain ⟨k4, a4, t4, n4, o4, l4, c4, q4, rfl, rfl, hk4⟩ := hx4.shape
      have HS4 := Lib.hid hs4
      have TR4 := Lib.hid (synIn.of (ps := [w.heap.size, w1.heap.size]) hx4 (Nat.le_trans (Nat.le_refl _) B3.out.size) (fun p hp => by simp only [List.mem_cons, List.not_mem_nil, or_false] at hp; have g0 := XR3.out.lt; have g1 := XT3.out.lt; omega))
      have A4 := Lib.hid ha4; have B4 := Lib.hid (B3.out.trans hb4)
      have XR4 := Lib.hid (XR3.out.butt HPR.out hb4)
      have XT4 := Lib.hid (XT3.out.butt PXT.out hb4)
      clear ha4 hb4 hx4 hk4 hs4
      refine Lib.hid ?_
      have hAw : offs w.heap.size [w.heap.size, w1.heap.size] w4.heap.size := ⟨Nat.le_trans (Nat.le_refl _) B4.out.size, fun hp => by simp only [List.mem_cons, List.not_mem_nil, or_false] at hp; have g0 := XR4.out.lt; have g1 := XT4.out.lt; omega⟩
      have hki := kidsIn_new (flatIn.cons ((synIn_mk (kids := []) (k := 3) (a := ea) (n := 0) (t := ⟨#[]⟩)).mpr ⟨_, rfl, Or.inl ⟨rfl, rfl⟩⟩) (flatIn.one (TR4.out))) (by simp) hAw 2 rfl
      have KI := Lib.hid hki
      clear hAw hki
      go_wp2_with (go_at_call 59; refine (pnode_any _ _ _ _ _ _ _).mono ?_; rintro e w5 ⟨rfl, hb5⟩; refine Hid.out ?_)
      have hbx := Butt.of_below (R := R) A4.out.fix.lt (Below.chain ((Below.refl _ _).alloc (Nat.le_refl _) (Obj.cells #[.int .i64 3, .int .i64 ea, .string ⟨#[]⟩, .int .i64 0, .slice none 0 0, .int .i64 k4, .int .i64 a4, .string t4, .int .i64 n4, .slice o4 l4 c4] 25)) hb5)
      have ha5 : At R L w5 _ _ := ⟨A4.out.fix.butt hbx, A4.out.rs.below (Below.chain ((Below.refl _ _).alloc (Nat.le_refl _) (Obj.cells #[.int .i64 3, .int .i64 ea, .string ⟨#[]⟩, .int .i64 0, .slice none 0 0, .int .i64 k4, .int .i64 a4, .string t4, .int .i64 n4, .slice o4 l4 c4] 25)) hb5)⟩
      have TN := Lib.hid (synIn_mk.mpr ⟨_, rfl, KI.out.below hb5⟩ : synIn (offs w.heap.size [w.heap.size, w1.heap.size]) w5 (.mk 9 ea ⟨#[]⟩ 0 [(.mk 3 ea ⟨#[]⟩ 0 []), (.mk k4 a4 t4 n4 q4)]) _)
      have hb5 := hbx; clear hbx
      have A5 := Lib.hid ha5; have B5 := Lib.hid (B4.out.trans hb5)
      have XR5 := Lib.hid (XR4.out.butt HPR.out hb5)
      have XT5 := Lib.hid (XT4.out.butt PXT.out hb5)
      clear ha5 hb5
      refine Lib.hid ?_
      have FT := Lib.hid (store5 HA0.out B5.out A5.out XT5.out HB1.out (.int .i64 9) (.int .i64 ea) (.string ⟨#[]⟩) (.int .i64 0) (.slice (some ⟨w4.heap.size, 0, none⟩) 2 2) _ rfl)
      have zz := XT5.out
      have yXT0 := zz.c0
      have fXT0 := zz.free 0
      have yXT1 := zz.c1
      have fXT1 := zz.free 1
      have yXT2 := zz.c2
      have fXT2 := zz.free 2
      have yXT3 := zz.c3
      have fXT3 := zz.free 3
      have yXT4 := zz.c4
      have fXT4 := zz.free 4
      clear zz
      have A6s := Lib.hid FT.out.2.1; have B6s := Lib.hid FT.out.2.2.1; have XT6s := Lib.hid FT.out.1
      have XR6s := Lib.hid (XR5.out.kept H1P.out FT.out.2.2.2)
      have TS6 := Lib.hid ((TN.out).kept (by simp) FT.out.2.2.2)
      clear FT
      go_wp2_with (go_at_call 55; refine (sexpect A6s.out ⟨#[59]⟩).mono ?_; rintro e w7 ⟨rfl, ha7, hb7⟩; refine Hid.out ?_)
      have A7 := Lib.hid ha7; have B7 := Lib.hid (B6s.out.trans hb7)
      have XR7 := Lib.hid (XR6s.out.butt HPR.out hb7)
      have XT7 := Lib.hid (XT6s.out.butt PXT.out hb7)
      have TS67 := Lib.hid (TS6.out.butt HLT.out hb7)
      clear ha7 hb7
      refine Lib.hid ?_
      have zXT := XT7.out
      have yXT0 := zXT.c0
      have yXT1 := zXT.c1
      have yXT2 := zXT.c2
      have yXT3 := zXT.c3
      have yXT4 := zXT.c4
      clear zXT
      have FT := Lib.hid (store5 HA0.out B7.out A7.out XR7.out (Nat.le_refl _) (.int .i64 9) (.int .i64 ea) (.string ⟨#[]⟩) (.int .i64 0) (.slice (some ⟨w4.heap.size, 0, none⟩) 2 2) _ rfl)
      have GX := Lib.hid ((TS67.out).kept (by simp) FT.out.2.2.2).at
      have zXR := XR7.out
      have yXR0 := zXR.c0
      have yXR1 := zXR.c1
      have yXR2 := zXR.c2
      have yXR3 := zXR.c3
      have yXR4 := zXR.c4
      have fXR0 := zXR.free 0
      have fXR1 := zXR.free 1
      have fXR2 := zXR.free 2
      have fXR3 := zXR.free 3
      have fXR4 := zXR.free 4
      clear zXR
      obtain ⟨r0, r1, r2, r3, r4⟩ := FT.out.1
      have GA := Lib.hid FT.out.2.1; have GB := Lib.hid FT.out.2.2.1
      clear FT
      go_wp2
      refine bodyPost_ret (by simp [results, Tryz.results122, go_sem, r0, r1, r2, r3, r4]; rfl) rfl ?_
      exact ⟨_, _, _, rfl, GX.out, HM.out _ _ HS4.out, GA.out, GB.out⟩
    · have HM := Lib.hid (fun xs y s1 s2 => stmt_assign (L := L) (d := d) (xs := xs) (y := y) (s1 := s1) (s2 := s2) hfi hn ⟨h3, h4⟩)
      have e1 : ((nextT L st).toList == [91]) = false := by have := bytes_ne h3; simpa using this
      have e2 : ((nextT L st).toList == [40]) = false := by have := bytes_ne h4; simpa using this
      have CL := fun W (H : At R L W d st) => plist_place H (fun s hs W2 H2 => splace H2)
      have KLI := Lib.hid CL; clear CL
      generalize nextT L st = NX at *
      generalize (cur L st).a = ea at *
      have KH := Lib.hid CH; have KF := Lib.hid CF; have KK := Lib.hid KS; have KL := Lib.hid KC; have KQ := Lib.hid KR
      have HA0 := Lib.hid h
      have HLT := Lib.hid h.fix.lt; have HRW := Lib.hid h.fix.lt
      have hA := h.alloc (Obj.cells #[.int .i64 0, .int .i64 0, .string ⟨#[]⟩, .int .i64 0, .slice none 0 0] 25)
      have hB := (Butt.refl R w).alloc h.fix.lt (Obj.cells #[.int .i64 0, .int .i64 0, .string ⟨#[]⟩, .int .i64 0, .slice none 0 0] 25)
      have hX := Bx5.new w (.int .i64 0) (.int .i64 0) (.string ⟨#[]⟩) (.int .i64 0) (.slice none 0 0)
      have hpR : w.heap.size ≠ R := fun e => absurd h.fix.lt (by rw [e]; exact Nat.lt_irrefl _)
      have hls : w.heap.size < (w.alloc (Obj.cells #[.int .i64 0, .int .i64 0, .string ⟨#[]⟩, .int .i64 0, .slice none 0 0] 25)).heap.size := by simp
      have A0 := Lib.hid hA; have B0 := Lib.hid hB; have XR0 := Lib.hid hX; have HPR := Lib.hid hpR; have HLS := Lib.hid hls
      clear hA hB hX hpR hls h CH CF KS KC KR hn hfi h3 h4
      go_enter Tryz.func122, Tryz.ntmps122
      go_wp2_with (go_at_call 56; refine (KH.out _ A0.out).mono ?_; rintro e w1 ⟨rfl, ha1, hb1⟩; refine Hid.out ?_)
      have A1 := Lib.hid ha1; have B1 := Lib.hid (B0.out.trans hb1)
      have XR1 := Lib.hid (XR0.out.butt HPR.out hb1)
      clear ha1 hb1
      refine Lib.hid ?_
      have H1P : Hid (w.heap.size ≠ w1.heap.size) := Lib.hid (fun e => by have := XR1.out.lt; omega)
      have HB1 : Hid (w.heap.size ≤ w1.heap.size) := Lib.hid B1.out.size
      have A1a := Lib.hid (A1.out.alloc (Obj.cells #[.int .i64 0, .int .i64 0, .string ⟨#[]⟩, .int .i64 0, .slice none 0 0] 25)); have B1a := Lib.hid (B1.out.alloc HRW.out (Obj.cells #[.int .i64 0, .int .i64 0, .string ⟨#[]⟩, .int .i64 0, .slice none 0 0] 25))
      have XR1a := Lib.hid (XR1.out.alloc (Obj.cells #[.int .i64 0, .int .i64 0, .string ⟨#[]⟩, .int .i64 0, .slice none 0 0] 25))
      have PXT : Hid (w1.heap.size ≠ R) := Lib.hid (fun e => absurd (A1.out.fix.lt) (by rw [e]; exact Nat.lt_irrefl _))
      have XT1a := Lib.hid (Bx5.new w1 (.int .i64 0) (.int .i64 0) (.string ⟨#[]⟩) (.int .i64 0) (.slice none 0 0))
      go_wp2_with (go_at_call 147; refine (KF.out _ A1a.out).mono ?_; rintro e w2 ⟨rfl, ha2, hb2⟩; refine Hid.out ?_)
      have A2 := Lib.hid ha2; have B2 := Lib.hid (B1a.out.trans hb2)
      have XR2 := Lib.hid (XR1a.out.butt HPR.out hb2)
      have XT2 := Lib.hid (XT1a.out.butt PXT.out hb2)
      clear ha2 hb2
      refine Lib.hid ?_
      go_wp2_with (go_at_call 96; refine (KLI.out _ A2.out).mono ?_; rintro e w3 ⟨x3, v3, s3, rfl, hx3, hn3, hs3, ha3, hb3⟩; refine Hid.out ?_)
      obtain ⟨o3, c3, rfl⟩ := hx3.slice
      have RW3 := Lib.hid (ownT.kidsIn (ps := [w.heap.size, w1.heap.size]) hx3 (Nat.le_trans (Nat.le_refl _) B2.out.size) (fun p hp => by simp only [List.mem_cons, List.not_mem_nil, or_false] at hp; have g0 := XR2.out.lt; have g1 := XT2.out.lt; omega))
      have HS3 := Lib.hid hs3; have HN3 := Lib.hid hn3
      have A3 := Lib.hid ha3; have B3 := Lib.hid (B2.out.trans hb3)
      have XR3 := Lib.hid (XR2.out.butt HPR.out hb3)
      have XT3 := Lib.hid (XT2.out.butt PXT.out hb3)
      clear ha3 hb3 hx3 hs3 hn3
      refine Lib.hid ?_
      go_wp2_with (go_at_call 59; refine (pnode_any _ _ _ _ _ _ _).mono ?_; rintro e w4 ⟨rfl, hbl4⟩; refine Hid.out ?_)
      have ha4 := A3.out.below hbl4; have hb4 := Butt.of_below (R := R) A3.out.fix.lt hbl4; clear hbl4
      have A4 := Lib.hid ha4; have B4 := Lib.hid (B3.out.trans hb4)
      have XR4 := Lib.hid (XR3.out.butt HPR.out hb4)
      have XT4 := Lib.hid (XT3.out.butt PXT.out hb4)
      have RW34 := Lib.hid (RW3.out.butt HLT.out hb4)
      clear ha4 hb4
      refine Lib.hid ?_
      have TP := Lib.hid (synIn_mk.mpr ⟨_, rfl, RW34.out⟩ : synIn (offs w.heap.size [w.heap.size, w1.heap.size]) w4 (.mk 3 ea ⟨#[]⟩ 0 x3) (.agg #[.int .i64 3, .int .i64 ea, .string ⟨#[]⟩, .int .i64 0, .slice o3 x3.length c3]))
      have H5T : Hid (w4.heap.size ≠ w1.heap.size) := Lib.hid (fun e => by have := XT4.out.lt; omega)
      have A4a1 := Lib.hid (A4.out.alloc (Obj.cells #[.int .i64 3, .int .i64 ea, .string ⟨#[]⟩, .int .i64 0, .slice o3 x3.length c3] 25)); have B4a1 := Lib.hid (B4.out.alloc HRW.out (Obj.cells #[.int .i64 3, .int .i64 ea, .string ⟨#[]⟩, .int .i64 0, .slice o3 x3.length c3] 25))
      have XR4a1 := Lib.hid (XR4.out.alloc (Obj.cells #[.int .i64 3, .int .i64 ea, .string ⟨#[]⟩, .int .i64 0, .slice o3 x3.length c3] 25))
      have XT4a1 := Lib.hid (XT4.out.alloc (Obj.cells #[.int .i64 3, .int .i64 ea, .string ⟨#[]⟩, .int .i64 0, .slice o3 x3.length c3] 25))
      have TP4a1 := Lib.hid (TP.out.butt HLT.out (Butt.of_below A4.out.fix.lt ((Below.refl _ _).alloc (Nat.le_refl _) (Obj.cells #[.int .i64 3, .int .i64 ea, .string ⟨#[]⟩, .int .i64 0, .slice o3 x3.length c3] 25))))
      have PX5 : Hid (w4.heap.size ≠ R) := Lib.hid (fun e => absurd (A4.out.fix.lt) (by rw [e]; exact Nat.lt_irrefl _))
      have X54a1 := Lib.hid (Bx5.new w4 (.int .i64 3) (.int .i64 ea) (.string ⟨#[]⟩) (.int .i64 0) (.slice o3 x3.length c3))
      go_wp2_with (go_at_call 55; refine (sexpect A4a1.out ⟨#[58, 61]⟩).mono ?_; rintro e w5 ⟨rfl, ha5, hb5⟩; refine Hid.out ?_)
      have A5 := Lib.hid ha5; have B5 := Lib.hid (B4a1.out.trans hb5)
      have XR5 := Lib.hid (XR4a1.out.butt HPR.out hb5)
      have XT5 := Lib.hid (XT4a1.out.butt PXT.out hb5)
      have X55 := Lib.hid (X54a1.out.butt PX5.out hb5)
      have TP5 := Lib.hid (TP4a1.out.butt HLT.out hb5)
      clear ha5 hb5
      refine Lib.hid ?_
      have KRR := Lib.hid (fun W (H : At R L W d (needS (tIs L s3 ⟨#[58, 61]⟩) s3)) => KQ.out _ (Nat.le_trans needS_rem (Run.rem HS3.out)) W H)
      go_wp2_with fail
      have AD := Lib.hid (A5.out.below (Below.refl _ _).drew); have BD := Lib.hid (B5.out.drew)
      have XRD := Lib.hid (XR5.out.below (Below.refl _ _).drew)
      have XTD := Lib.hid (XT5.out.below (Below.refl _ _).drew)
      have X5D := Lib.hid (X55.out.below (Below.refl _ _).drew)
      have TPD := Lib.hid (TP5.out.butt HLT.out (Butt.refl R w5).drew)
      have HLW : Hid (w.heap.size ≤ w5.heap.size) := Lib.hid (Nat.le_trans (Nat.le_refl _) B5.out.size)
      have zX5 := X55.out
      have yX50 := zX5.c0
      have yX51 := zX5.c1
      have yX52 := zX5.c2
      have yX53 := zX5.c3
      have yX54 := zX5.c4
      clear zX5
      go_region_with (first | (go_at_call 150; (with_reducible first | refine (KRR.out _ A5.out).mono ?_ | refine (KRR.out _ AD.out).mono ?_); rintro e w6 ⟨x6, v6, s6, rfl, hx6, hs6, ha6, hb6⟩; obtain ⟨k6, a6, t6, n6, o6, l6, c6, q6, rfl, rfl, hk6⟩ := hx6.shape; have HS6 := Lib.hid hs6; have A6 := Lib.hid ha6; have B6 := Lib.hid ((by with_reducible first | exact B5.out.trans hb6 | exact BD.out.trans hb6) : Butt R w w6); have TR6 := Lib.hid ((by first | exact synIn.of (ps := [w.heap.size, w1.heap.size]) hx6 HLW.out (fun p hp => by simp only [List.mem_cons, List.not_mem_nil, or_false] at hp; have g0 := XR5.out.lt; have g1 := XT5.out.lt; omega) | exact synIn.of (ps := [w.heap.size, w1.heap.size]) (show synAt w5.heap.size w6 _ _ from hx6) HLW.out (fun p hp => by simp only [List.mem_cons, List.not_mem_nil, or_false] at hp; have g0 := XR5.out.lt; have g1 := XT5.out.lt; omega)) : synIn (offs w.heap.size [w.heap.size, w1.heap.size]) w6 (.mk k6 a6 t6 n6 q6) (.agg #[.int .i64 k6, .int .i64 a6, .string t6, .int .i64 n6, .slice o6 l6 c6])); have XR6 := Lib.hid ((by with_reducible first | exact XR5.out.butt HPR.out hb6 | exact XRD.out.butt HPR.out hb6) : Bx5 w6 w.heap.size (.int .i64 0) (.int .i64 0) (.string ⟨#[]⟩) (.int .i64 0) (.slice none 0 0)); have XT6 := Lib.hid ((by with_reducible first | exact XT5.out.butt PXT.out hb6 | exact XTD.out.butt PXT.out hb6) : Bx5 w6 (w1.heap.size) (.int .i64 0) (.int .i64 0) (.string ⟨#[]⟩) (.int .i64 0) (.slice none 0 0)); have X56 := Lib.hid ((by with_reducible first | exact X55.out.butt PX5.out hb6 | exact X5D.out.butt PX5.out hb6) : Bx5 w6 (w4.heap.size) (.int .i64 3) (.int .i64 ea) (.string ⟨#[]⟩) (.int .i64 0) (.slice o3 x3.length c3)); have TP6 := Lib.hid ((by with_reducible first | exact TP5.out.butt HLT.out hb6 | exact TPD.out.butt HLT.out hb6) : synIn (offs w.heap.size [w.heap.size, w1.heap.size]) w6 (.mk 3 ea ⟨#[]⟩ 0 x3) (.agg #[.int .i64 3, .int .i64 ea, .string ⟨#[]⟩, .int .i64 0, .slice o3 x3.length c3])); have uX50 := X56.out.c0; have uX51 := X56.out.c1; have uX52 := X56.out.c2; have uX53 := X56.out.c3; have uX54 := X56.out.c4; have lX5 := X56.out.lt; have mX5 := Nat.ne_of_lt lX5; skip; clear ha6 hb6 hx6 hk6 hs6) | (go_at_call 59; refine (pnode_any _ _ _ _ _ _ _).mono ?_; rintro e w7 ⟨rfl, hb7⟩; have HBR := Lib.hid hb7; have hbx : Below w6.heap.size w6 w7 := Below.chain ((Below.refl _ _).alloc (Nat.le_refl _) _) hb7; have HBX := Lib.hid hbx; obtain ⟨g0, g1, g2, g3, g4, gf, gl⟩ := XT6.out.below hbx; have gf0 := gf 0; have gf1 := gf 1; have gf2 := gf 2; have gf3 := gf 3; have gf4 := gf 4; clear gf gl hbx hb7))
      all_goals
        have hAw : offs w.heap.size [w.heap.size, w1.heap.size] w6.heap.size := ⟨Nat.le_trans (Nat.le_refl _) B6.out.size, fun hp => by simp only [List.mem_cons, List.not_mem_nil, or_false] at hp; have g0 := XR6.out.lt; have g1 := XT6.out.lt; omega⟩
        have KI := Lib.hid (kidsIn_new (flatIn.cons (TP6.out) (flatIn.one (TR6.out))) (by simp) hAw 2 rfl); clear hAw
        have TN := Lib.hid (synIn_mk.mpr ⟨_, rfl, KI.out.below HBR.out⟩ : synIn (offs w.heap.size [w.heap.size, w1.heap.size]) w7 (.mk 9 ea ⟨#[]⟩ 0 [(.mk 3 ea ⟨#[]⟩ 0 x3), (.mk k6 a6 t6 n6 q6)]) _)
        have AN := Lib.hid (A6.out.below HBX.out); have BN := Lib.hid (B6.out.trans (Butt.of_below A6.out.fix.lt HBX.out)); have XN := Lib.hid (XT6.out.below HBX.out)
        have FT := Lib.hid (store5 HA0.out BN.out AN.out XN.out HB1.out (.int .i64 9) (.int .i64 ea) (.string ⟨#[]⟩) (.int .i64 0) (.slice (some ⟨w6.heap.size, 0, none⟩) 2 2) _ rfl)
        clear g0 g1 g2 g3 g4 gf0 gf1 gf2 gf3 gf4
        have XRN := Lib.hid (XR6.out.below HBX.out)
        have XTN := Lib.hid (XT6.out.below HBX.out)
        have X5N := Lib.hid (X56.out.below HBX.out)
        have A7s := Lib.hid FT.out.2.1; have B7s := Lib.hid FT.out.2.2.1; have XT7s := Lib.hid FT.out.1
        have XR7s := Lib.hid (XRN.out.kept H1P.out FT.out.2.2.2)
        have X57s := Lib.hid (X5N.out.kept H5T.out FT.out.2.2.2)
        have TS7 := Lib.hid ((TN.out).kept (by simp) FT.out.2.2.2)
        clear FT
        go_wp2_with (go_at_call 55; refine (sexpect A7s.out ⟨#[59]⟩).mono ?_; rintro e w8 ⟨rfl, ha8, hb8⟩; refine Hid.out ?_)
        have A8 := Lib.hid ha8; have B8 := Lib.hid (B7s.out.trans hb8)
        have XR8 := Lib.hid (XR7s.out.butt HPR.out hb8)
        have XT8 := Lib.hid (XT7s.out.butt PXT.out hb8)
        have X58 := Lib.hid (X57s.out.butt PX5.out hb8)
        have TS78 := Lib.hid (TS7.out.butt HLT.out hb8)
        clear ha8 hb8
        refine Lib.hid ?_
        have zXT := XT8.out
        have yXT0 := zXT.c0
        have yXT1 := zXT.c1
        have yXT2 := zXT.c2
        have yXT3 := zXT.c3
        have yXT4 := zXT.c4
        clear zXT
        have FT := Lib.hid (store5 HA0.out B8.out A8.out XR8.out (Nat.le_refl _) (.int .i64 9) (.int .i64 ea) (.string ⟨#[]⟩) (.int .i64 0) (.slice (some ⟨w6.heap.size, 0, none⟩) 2 2) _ rfl)
        have GX := Lib.hid ((TS78.out).kept (by simp) FT.out.2.2.2).at
        have zXR := XR8.out
        have yXR0 := zXR.c0
        have yXR1 := zXR.c1
        have yXR2 := zXR.c2
        have yXR3 := zXR.c3
        have yXR4 := zXR.c4
        have fXR0 := zXR.free 0
        have fXR1 := zXR.free 1
        have fXR2 := zXR.free 2
        have fXR3 := zXR.free 3
        have fXR4 := zXR.free 4
        clear zXR
        obtain ⟨r0, r1, r2, r3, r4⟩ := FT.out.1
        have GA := Lib.hid FT.out.2.1; have GB := Lib.hid FT.out.2.2.1
        clear FT
        go_wp2
        refine bodyPost_ret (by simp [results, Tryz.results122, go_sem, r0, r1, r2, r3, r4]; rfl) rfl ?_
        exact ⟨_, _, _, rfl, GX.out, HM.out _ _ _ _ HS3.out HS6.out, GA.out, GB.out⟩
end Go.Proofs.YtdibcllakkjegaaGreatDoor
