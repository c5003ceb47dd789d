import Derived.Test.YtdibcllakkjegaaGreatDoorCut17

set_option linter.unusedVariables false
/-
  parser: block, when, parameters, results, variables, record.
-/
set_option linter.unusedSimpArgs false
set_option linter.unusedVariables false
namespace Go.Proofs.YtdibcllakkjegaaGreatDoor
open Go Go.Proofs Go.RowKit Go.Sort
set_option maxRecDepth 20000 in
set_option maxHeartbeats 1000000 in
theorem pblock {R : Nat} {L : List Tk} {d : Nat} {st : RSt} {w : World} (h : At R L w d st) (hd : d ≤ 999999) (K : GL 116 R L #[.pointer (some ⟨R, 0, none⟩)] .stmts (d + 1) (enterS L st d (tIs L st ⟨#[123]⟩))) :
    Calls Tryz.prog 152 #[.pointer (some ⟨R, 0, none⟩)] w (PT R L .block d st w) := by
  have hfi := h.fine
  have CE := fun W (H : At R L W d st) => senter H hd ⟨#[123]⟩
  have HM := Lib.hid (fun xs s' => st_block (L := L) (d := d) (xs := xs) hfi s')
  generalize tokM L st (tIs L st ⟨#[123]⟩) = T at *
  obtain ⟨ek, et, ea⟩ := T
  unfold tkA at *
  dsimp only at *
  generalize enterS L st d _ = s1 at *
  have KE := Lib.hid CE; have KL := Lib.hid K; have HD := Lib.hid hd
  have HA0 := Lib.hid h
  have HLT := Lib.hid h.fix.lt; have HRW := Lib.hid h.fix.lt
  have hA := h.alloc (Obj.cells #[.int .i64 0, .int .i64 0, .string ⟨#[]⟩, .int .i64 0, .slice none 0 0] 25)
  have hB := (Butt.refl R w).alloc h.fix.lt (Obj.cells #[.int .i64 0, .int .i64 0, .string ⟨#[]⟩, .int .i64 0, .slice none 0 0] 25)
  have hX := Bx5.new w (.int .i64 0) (.int .i64 0) (.string ⟨#[]⟩) (.int .i64 0) (.slice none 0 0)
  have hpR : w.heap.size ≠ R := fun e => absurd h.fix.lt (by rw [e]; exact Nat.lt_irrefl _)
  have hls : w.heap.size < (w.alloc (Obj.cells #[.int .i64 0, .int .i64 0, .string ⟨#[]⟩, .int .i64 0, .slice none 0 0] 25)).heap.size := by simp
  have A0 := Lib.hid hA; have B0 := Lib.hid hB; have XR0 := Lib.hid hX; have HPR := Lib.hid hpR; have HLS := Lib.hid hls
  clear hA hB hX hpR hls h CE K hd hfi
  go_enter Tryz.func152, Tryz.ntmps152
  go_wp2_with (go_at_call 114; refine (KE.out _ A0.out).mono ?_; rintro e w1 ⟨rfl, ha1, hb1⟩; refine Hid.out ?_)
  have A1 := Lib.hid ha1; have B1 := Lib.hid (B0.out.trans hb1)
  have XR1 := Lib.hid (XR0.out.butt HPR.out hb1)
  clear ha1 hb1
  refine Lib.hid ?_
  have A1a := Lib.hid (A1.out.alloc (Obj.cells #[.int .i64 ek, .string et, .int .i64 ea] 47)); have B1a := Lib.hid (B1.out.alloc HRW.out (Obj.cells #[.int .i64 ek, .string et, .int .i64 ea] 47))
  have XR1a := Lib.hid (XR1.out.alloc (Obj.cells #[.int .i64 ek, .string et, .int .i64 ea] 47))
  have PTT : Hid (w1.heap.size ≠ R) := Lib.hid (fun e => absurd (A1.out.fix.lt) (by rw [e]; exact Nat.lt_irrefl _))
  have TT1a := Lib.hid (Bx3.new w1 (.int .i64 ek) (.string et) (.int .i64 ea))
  go_wp2_with (go_at_call 116; refine (KL.out _ A1a.out).mono ?_; rintro e w2 ⟨x2, v2, s2, rfl, hx2, hn2, hs2, ha2, hb2⟩; refine Hid.out ?_)
  obtain ⟨o2, c2, rfl⟩ := hx2.slice
  have RW2 := Lib.hid (ownT.kidsIn (ps := [w.heap.size]) hx2 (Nat.le_trans (Nat.le_refl _) B1a.out.size) (fun p hp => by simp only [List.mem_cons, List.not_mem_nil, or_false] at hp; have g0 := XR1a.out.lt; omega))
  have HS2 := Lib.hid hs2; have HN2 := Lib.hid hn2
  have A2 := Lib.hid ha2; have B2 := Lib.hid (B1a.out.trans hb2)
  have XR2 := Lib.hid (XR1a.out.butt HPR.out hb2)
  have TT2 := Lib.hid (TT1a.out.butt PTT.out hb2)
  clear ha2 hb2 hx2 hs2 hn2
  refine Lib.hid ?_
  go_wp2_with (go_at_call 55; refine (sexpect A2.out ⟨#[125]⟩).mono ?_; rintro e w3 ⟨rfl, ha3, hb3⟩; refine Hid.out ?_)
  have A3 := Lib.hid ha3; have B3 := Lib.hid (B2.out.trans hb3)
  have XR3 := Lib.hid (XR2.out.butt HPR.out hb3)
  have TT3 := Lib.hid (TT2.out.butt PTT.out hb3)
  have RW23 := Lib.hid (RW2.out.butt HLT.out hb3)
  clear ha3 hb3
  refine Lib.hid ?_
  go_wp2_with (go_at_call 117; refine (sleave A3.out HD.out).mono ?_; rintro e w4 ⟨rfl, ha4, hb4⟩; refine Hid.out ?_)
  have A4 := Lib.hid ha4; have B4 := Lib.hid (B3.out.trans hb4)
  have XR4 := Lib.hid (XR3.out.butt HPR.out hb4)
  have TT4 := Lib.hid (TT3.out.butt PTT.out hb4)
  have RW24 := Lib.hid (RW23.out.butt HLT.out hb4)
  clear ha4 hb4
  refine Lib.hid ?_
  have zTT := TT4.out
  have yTT0 := zTT.c0
  have yTT1 := zTT.c1
  have yTT2 := zTT.c2
  clear zTT
  go_wp2_with (go_at_call 59; refine (pnode_any _ _ _ _ _ _ _).mono ?_; rintro e w5 ⟨rfl, hb5⟩; refine Hid.out ?_)
  have hbx := Butt.of_below (R := R) A4.out.fix.lt hb5
  have ha5 : At R L w5 _ _ := ⟨A4.out.fix.butt hbx, A4.out.rs.below hb5⟩
  have TN := Lib.hid (synIn_mk.mpr ⟨_, rfl, RW24.out.below hb5⟩ : synIn (offs w.heap.size [w.heap.size]) w5 (.mk 6 ea ⟨#[]⟩ 0 x2) _)
  have hb5 := hbx; clear hbx
  have A5 := Lib.hid ha5; have B5 := Lib.hid (B4.out.trans hb5)
  have XR5 := Lib.hid (XR4.out.butt HPR.out hb5)
  have TT5 := Lib.hid (TT4.out.butt PTT.out hb5)
  clear ha5 hb5
  refine Lib.hid ?_
  have FT := Lib.hid (store5 HA0.out B5.out A5.out XR5.out (Nat.le_refl _) (.int .i64 6) (.int .i64 ea) (.string ⟨#[]⟩) (.int .i64 0) (.slice o2 x2.length c2) _ rfl)
  have GX := Lib.hid ((TN.out).kept (by simp) FT.out.2.2.2).at
  have zXR := XR5.out
  have yXR0 := zXR.c0
  have yXR1 := zXR.c1
  have yXR2 := zXR.c2
  have yXR3 := zXR.c3
  have yXR4 := zXR.c4
  have fXR0 := zXR.free 0
  have fXR1 := zXR.free 1
  have fXR2 := zXR.free 2
  have fXR3 := zXR.free 3
  have fXR4 := zXR.free 4
  clear zXR
  obtain ⟨r0, r1, r2, r3, r4⟩ := FT.out.1
  have GA := Lib.hid FT.out.2.1; have GB := Lib.hid FT.out.2.2.1
  clear FT
  go_wp2
  refine bodyPost_ret (by simp [results, Tryz.results152, go_sem, r0, r1, r2, r3, r4]; rfl) rfl ?_
  exact ⟨_, _, _, rfl, GX.out, HM.out _ _ HS2.out, GA.out, GB.out⟩
set_option maxRecDepth 20000 in
set_option maxHeartbeats 1000000 in
theorem pwhen_requires {R : Nat} {L : List Tk} {d : Nat} {st : RSt} {w : World} (h : At R L w d st) (K : ∀ s : RSt, s.rem ≤ st.rem → GT 41 R L #[.pointer (some ⟨R, 0, none⟩)] (.lvl 0) d s) :
    Calls Tryz.prog 88 #[.pointer (some ⟨R, 0, none⟩), .string ⟨#[114, 101, 113, 117, 105, 114, 101, 115]⟩] w (PS R L (fun x st' => Run (mWhen wRequires d) st x st') d w) := by
  have hfi := h.fine
  have CH := fun W (H : At R L W d st) => shere H
  have CA := fun W (H : At R L W d st) => saccept H ⟨#[114, 101, 113, 117, 105, 114, 101, 115]⟩
  have hpk := run_peek (L := L) hfi
  have his := run_is (L := L) hfi wRequires
  cases hb : tIs L st ⟨#[114, 101, 113, 117, 105, 114, 101, 115]⟩ with
  | true =>
    rw [hb, if_pos rfl] at CA
    have HM := Lib.hid (fun x s' (hs : Stp (.lvl 0) d (takeS st) [x] s') => (Run.bind hpk (Run.bind his (Run.ite (fun _ => Run.bind (run_take (L := L) hfi) (Run.bind hs (run_ret (Run.fine hs (RSt.takeS_fine hfi))))) (fun h => absurd hb h))) : Run (mWhen wRequires d) st (.mk 5 (cur L st).a ⟨#[]⟩ 0 [x]) s'))
    generalize (cur L st).a = ea at *
    have KH := Lib.hid CH; have KA := Lib.hid CA; have KC := Lib.hid (K (takeS st) (takeS_rem st))
    have HA0 := Lib.hid h
    have HLT := Lib.hid h.fix.lt; have HRW := Lib.hid h.fix.lt
    have hA := h.alloc (Obj.cells #[.int .i64 0, .int .i64 0, .string ⟨#[]⟩, .int .i64 0, .slice none 0 0] 25)
    have hB := (Butt.refl R w).alloc h.fix.lt (Obj.cells #[.int .i64 0, .int .i64 0, .string ⟨#[]⟩, .int .i64 0, .slice none 0 0] 25)
    have hX := Bx5.new w (.int .i64 0) (.int .i64 0) (.string ⟨#[]⟩) (.int .i64 0) (.slice none 0 0)
    have hpR : w.heap.size ≠ R := fun e => absurd h.fix.lt (by rw [e]; exact Nat.lt_irrefl _)
    have hls : w.heap.size < (w.alloc (Obj.cells #[.int .i64 0, .int .i64 0, .string ⟨#[]⟩, .int .i64 0, .slice none 0 0] 25)).heap.size := by simp
    have A0 := Lib.hid hA; have B0 := Lib.hid hB; have XR0 := Lib.hid hX; have HPR := Lib.hid hpR; have HLS := Lib.hid hls
    clear hA hB hX hpR hls h CH CA K hb hpk his hfi
    go_enter Tryz.func88, Tryz.ntmps88
    go_wp2_with (go_at_call 56; refine (KH.out _ A0.out).mono ?_; rintro e w1 ⟨rfl, ha1, hb1⟩; refine Hid.out ?_)
    have A1 := Lib.hid ha1; have B1 := Lib.hid (B0.out.trans hb1)
    have XR1 := Lib.hid (XR0.out.butt HPR.out hb1)
    clear ha1 hb1
    refine Lib.hid ?_
    go_wp2_with (go_at_call 84; refine (KA.out _ A1.out).mono ?_; rintro e w2 ⟨rfl, ha2, hb2⟩; refine Hid.out ?_)
    have A2 := Lib.hid ha2; have B2 := Lib.hid (B1.out.trans hb2)
    have XR2 := Lib.hid (XR1.out.butt HPR.out hb2)
    clear ha2 hb2
    refine Lib.hid ?_
    go_wp2_with (go_at_call 41; refine (KC.out _ A2.out).mono ?_; rintro e w3 ⟨x3, v3, s3, rfl, hx3, hs3, ha3, hb3⟩; refine Hid.out ?_)
    obtain ⟨k3, a3, t3, n3, o3, l3, c3, q3, rfl, rfl, hk3⟩ := hx3.shape
    have HS3 := Lib.hid hs3
    have TR3 := Lib.hid (synIn.of (ps := [w.heap.size]) hx3 (Nat.le_trans (Nat.le_refl _) B2.out.size) (fun p hp => by simp only [List.mem_cons, List.not_mem_nil, or_false] at hp; have g0 := XR2.out.lt; omega))
    have A3 := Lib.hid ha3; have B3 := Lib.hid (B2.out.trans hb3)
    have XR3 := Lib.hid (XR2.out.butt HPR.out hb3)
    clear ha3 hb3 hx3 hk3 hs3
    refine Lib.hid ?_
    have hAw : offs w.heap.size [w.heap.size] w3.heap.size := ⟨Nat.le_trans (Nat.le_refl _) B3.out.size, fun hp => by simp only [List.mem_cons, List.not_mem_nil, or_false] at hp; have g0 := XR3.out.lt; omega⟩
    have hki := kidsIn_new (flatIn.one (TR3.out)) (by simp) hAw 1 rfl
    have KI := Lib.hid hki
    clear hAw hki
    go_wp2_with (go_at_call 59; refine (pnode_any _ _ _ _ _ _ _).mono ?_; rintro e w4 ⟨rfl, hb4⟩; refine Hid.out ?_)
    have hbx := Butt.of_below (R := R) A3.out.fix.lt (Below.chain ((Below.refl _ _).alloc (Nat.le_refl _) (Obj.cells #[.int .i64 k3, .int .i64 a3, .string t3, .int .i64 n3, .slice o3 l3 c3] 25)) hb4)
    have ha4 : At R L w4 _ _ := ⟨A3.out.fix.butt hbx, A3.out.rs.below (Below.chain ((Below.refl _ _).alloc (Nat.le_refl _) (Obj.cells #[.int .i64 k3, .int .i64 a3, .string t3, .int .i64 n3, .slice o3 l3 c3] 25)) hb4)⟩
    have TN := Lib.hid (synIn_mk.mpr ⟨_, rfl, KI.out.below hb4⟩ : synIn (offs w.heap.size [w.heap.size]) w4 (.mk 5 ea ⟨#[]⟩ 0 [(.mk k3 a3 t3 n3 q3)]) _)
    have hb4 := hbx; clear hbx
    have A4 := Lib.hid ha4; have B4 := Lib.hid (B3.out.trans hb4)
    have XR4 := Lib.hid (XR3.out.butt HPR.out hb4)
    clear ha4 hb4
    refine Lib.hid ?_
    have FT := Lib.hid (store5 HA0.out B4.out A4.out XR4.out (Nat.le_refl _) (.int .i64 5) (.int .i64 ea) (.string ⟨#[]⟩) (.int .i64 0) (.slice (some ⟨w3.heap.size, 0, none⟩) 1 1) _ rfl)
    have GX := Lib.hid ((TN.out).kept (by simp) FT.out.2.2.2).at
    have zXR := XR4.out
    have yXR0 := zXR.c0
    have yXR1 := zXR.c1
    have yXR2 := zXR.c2
    have yXR3 := zXR.c3
    have yXR4 := zXR.c4
    have fXR0 := zXR.free 0
    have fXR1 := zXR.free 1
    have fXR2 := zXR.free 2
    have fXR3 := zXR.free 3
    have fXR4 := zXR.free 4
    clear zXR
    obtain ⟨r0, r1, r2, r3, r4⟩ := FT.out.1
    have GA := Lib.hid FT.out.2.1; have GB := Lib.hid FT.out.2.2.1
    clear FT
    go_wp2
    refine bodyPost_ret (by simp [results, Tryz.results88, go_sem, r0, r1, r2, r3, r4]; rfl) rfl ?_
    exact ⟨_, _, _, rfl, GX.out, HM.out _ _ HS3.out, GA.out, GB.out⟩
  | false =>
    rw [hb, if_neg Bool.false_ne_true] at CA
    have HM : Hid (Run (mWhen wRequires d) st (.mk 5 (cur L st).a ⟨#[]⟩ 0 []) st) := Lib.hid (Run.bind hpk (Run.bind his (Run.ite (fun h => absurd (hb.symm.trans h) (by decide)) (fun _ => run_ret hfi))))
    generalize (cur L st).a = ea at *
    have KH := Lib.hid CH; have KA := Lib.hid CA
    have HA0 := Lib.hid h
    have HLT := Lib.hid h.fix.lt; have HRW := Lib.hid h.fix.lt
    have hA := h.alloc (Obj.cells #[.int .i64 0, .int .i64 0, .string ⟨#[]⟩, .int .i64 0, .slice none 0 0] 25)
    have hB := (Butt.refl R w).alloc h.fix.lt (Obj.cells #[.int .i64 0, .int .i64 0, .string ⟨#[]⟩, .int .i64 0, .slice none 0 0] 25)
    have hX := Bx5.new w (.int .i64 0) (.int .i64 0) (.string ⟨#[]⟩) (.int .i64 0) (.slice none 0 0)
    have hpR : w.heap.size ≠ R := fun e => absurd h.fix.lt (by rw [e]; exact Nat.lt_irrefl _)
    have hls : w.heap.size < (w.alloc (Obj.cells #[.int .i64 0, .int .i64 0, .string ⟨#[]⟩, .int .i64 0, .slice none 0 0] 25)).heap.size := by simp
    have A0 := Lib.hid hA; have B0 := Lib.hid hB; have XR0 := Lib.hid hX; have HPR := Lib.hid hpR; have HLS := Lib.hid hls
    clear hA hB hX hpR hls h CH CA K hb hpk his hfi
    go_enter Tryz.func88, Tryz.ntmps88
    go_wp2_with (go_at_call 56; refine (KH.out _ A0.out).mono ?_; rintro e w1 ⟨rfl, ha1, hb1⟩; refine Hid.out ?_)
    have A1 := Lib.hid ha1; have B1 := Lib.hid (B0.out.trans hb1)
    have XR1 := Lib.hid (XR0.out.butt HPR.out hb1)
    clear ha1 hb1
    refine Lib.hid ?_
    go_wp2_with (go_at_call 84; refine (KA.out _ A1.out).mono ?_; rintro e w2 ⟨rfl, ha2, hb2⟩; refine Hid.out ?_)
    have A2 := Lib.hid ha2; have B2 := Lib.hid (B1.out.trans hb2)
    have XR2 := Lib.hid (XR1.out.butt HPR.out hb2)
    clear ha2 hb2
    refine Lib.hid ?_
    go_wp2_with (go_at_call 59; refine (pnode_any _ _ _ _ _ _ _).mono ?_; rintro e w3 ⟨rfl, hb3⟩; refine Hid.out ?_)
    have hbx := Butt.of_below (R := R) A2.out.fix.lt hb3
    have ha3 : At R L w3 _ _ := ⟨A2.out.fix.butt hbx, A2.out.rs.below hb3⟩
    have TN := Lib.hid (synIn_mk.mpr ⟨_, rfl, (Or.inl ⟨rfl, rfl⟩)⟩ : synIn (offs w.heap.size [w.heap.size]) w3 (.mk 5 ea ⟨#[]⟩ 0 []) _)
    have hb3 := hbx; clear hbx
    have A3 := Lib.hid ha3; have B3 := Lib.hid (B2.out.trans hb3)
    have XR3 := Lib.hid (XR2.out.butt HPR.out hb3)
    clear ha3 hb3
    refine Lib.hid ?_
    have FT := Lib.hid (store5 HA0.out B3.out A3.out XR3.out (Nat.le_refl _) (.int .i64 5) (.int .i64 ea) (.string ⟨#[]⟩) (.int .i64 0) (.slice none 0 0) _ rfl)
    have GX := Lib.hid ((TN.out).kept (by simp) FT.out.2.2.2).at
    have zXR := XR3.out
    have yXR0 := zXR.c0
    have yXR1 := zXR.c1
    have yXR2 := zXR.c2
    have yXR3 := zXR.c3
    have yXR4 := zXR.c4
    have fXR0 := zXR.free 0
    have fXR1 := zXR.free 1
    have fXR2 := zXR.free 2
    have fXR3 := zXR.free 3
    have fXR4 := zXR.free 4
    clear zXR
    obtain ⟨r0, r1, r2, r3, r4⟩ := FT.out.1
    have GA := Lib.hid FT.out.2.1; have GB := Lib.hid FT.out.2.2.1
    clear FT
    go_wp2
    refine bodyPost_ret (by simp [results, Tryz.results88, go_sem, r0, r1, r2, r3, r4]; rfl) rfl ?_
    exact ⟨_, _, _, rfl, GX.out, HM.out, GA.out, GB.out⟩
set_option maxRecDepth 20000 in
set_option maxHeartbeats 1000000 in
theorem pwhen_ensures {R : Nat} {L : List Tk} {d : Nat} {st : RSt} {w : World} (h : At R L w d st) (K : ∀ s : RSt, s.rem ≤ st.rem → GT 41 R L #[.pointer (some ⟨R, 0, none⟩)] (.lvl 0) d s) :
    Calls Tryz.prog 88 #[.pointer (some ⟨R, 0, none⟩), .string ⟨#[101, 110, 115, 117, 114, 101, 115]⟩] w (PS R L (fun x st' => Run (mWhen wEnsures d) st x st') d w) := by
  have hfi := h.fine
  have CH := fun W (H : At R L W d st) => shere H
  have CA := fun W (H : At R L W d st) => saccept H ⟨#[101, 110, 115, 117, 114, 101, 115]⟩
  have hpk := run_peek (L := L) hfi
  have his := run_is (L := L) hfi wEnsures
  cases hb : tIs L st ⟨#[101, 110, 115, 117, 114, 101, 115]⟩ with
  | true =>
    rw [hb, if_pos rfl] at CA
    have HM := Lib.hid (fun x s' (hs : Stp (.lvl 0) d (takeS st) [x] s') => (Run.bind hpk (Run.bind his (Run.ite (fun _ => Run.bind (run_take (L := L) hfi) (Run.bind hs (run_ret (Run.fine hs (RSt.takeS_fine hfi))))) (fun h => absurd hb h))) : Run (mWhen wEnsures d) st (.mk 5 (cur L st).a ⟨#[]⟩ 0 [x]) s'))
    generalize (cur L st).a = ea at *
    have KH := Lib.hid CH; have KA := Lib.hid CA; have KC := Lib.hid (K (takeS st) (takeS_rem st))
    have HA0 := Lib.hid h
    have HLT := Lib.hid h.fix.lt; have HRW := Lib.hid h.fix.lt
    have hA := h.alloc (Obj.cells #[.int .i64 0, .int .i64 0, .string ⟨#[]⟩, .int .i64 0, .slice none 0 0] 25)
    have hB := (Butt.refl R w).alloc h.fix.lt (Obj.cells #[.int .i64 0, .int .i64 0, .string ⟨#[]⟩, .int .i64 0, .slice none 0 0] 25)
    have hX := Bx5.new w (.int .i64 0) (.int .i64 0) (.string ⟨#[]⟩) (.int .i64 0) (.slice none 0 0)
    have hpR : w.heap.size ≠ R := fun e => absurd h.fix.lt (by rw [e]; exact Nat.lt_irrefl _)
    have hls : w.heap.size < (w.alloc (Obj.cells #[.int .i64 0, .int .i64 0, .string ⟨#[]⟩, .int .i64 0, .slice none 0 0] 25)).heap.size := by simp
    have A0 := Lib.hid hA; have B0 := Lib.hid hB; have XR0 := Lib.hid hX; have HPR := Lib.hid hpR; have HLS := Lib.hid hls
    clear hA hB hX hpR hls h CH CA K hb hpk his hfi
    go_enter Tryz.func88, Tryz.ntmps88
    go_wp2_with (go_at_call 56; refine (KH.out _ A0.out).mono ?_; rintro e w1 ⟨rfl, ha1, hb1⟩; refine Hid.out ?_)
    have A1 := Lib.hid ha1; have B1 := Lib.hid (B0.out.trans hb1)
    have XR1 := Lib.hid (XR0.out.butt HPR.out hb1)
    clear ha1 hb1
    refine Lib.hid ?_
    go_wp2_with (go_at_call 84; refine (KA.out _ A1.out).mono ?_; rintro e w2 ⟨rfl, ha2, hb2⟩; refine Hid.out ?_)
    have A2 := Lib.hid ha2; have B2 := Lib.hid (B1.out.trans hb2)
    have XR2 := Lib.hid (XR1.out.butt HPR.out hb2)
    clear ha2 hb2
    refine Lib.hid ?_
    go_wp2_with (go_at_call 41; refine (KC.out _ A2.out).mono ?_; rintro e w3 ⟨x3, v3, s3, rfl, hx3, hs3, ha3, hb3⟩; refine Hid.out ?_)
    obtain ⟨k3, a3, t3, n3, o3, l3, c3, q3, rfl, rfl, hk3⟩ := hx3.shape
    have HS3 := Lib.hid hs3
    have TR3 := Lib.hid (synIn.of (ps := [w.heap.size]) hx3 (Nat.le_trans (Nat.le_refl _) B2.out.size) (fun p hp => by simp only [List.mem_cons, List.not_mem_nil, or_false] at hp; have g0 := XR2.out.lt; omega))
    have A3 := Lib.hid ha3; have B3 := Lib.hid (B2.out.trans hb3)
    have XR3 := Lib.hid (XR2.out.butt HPR.out hb3)
    clear ha3 hb3 hx3 hk3 hs3
    refine Lib.hid ?_
    have hAw : offs w.heap.size [w.heap.size] w3.heap.size := ⟨Nat.le_trans (Nat.le_refl _) B3.out.size, fun hp => by simp only [List.mem_cons, List.not_mem_nil, or_false] at hp; have g0 := XR3.out.lt; omega⟩
    have hki := kidsIn_new (flatIn.one (TR3.out)) (by simp) hAw 1 rfl
    have KI := Lib.hid hki
    clear hAw hki
    go_wp2_with (go_at_call 59; refine (pnode_any _ _ _ _ _ _ _).mono ?_; rintro e w4 ⟨rfl, hb4⟩; refine Hid.out ?_)
    have hbx := Butt.of_below (R := R) A3.out.fix.lt (Below.chain ((Below.refl _ _).alloc (Nat.le_refl _) (Obj.cells #[.int .i64 k3, .int .i64 a3, .string t3, .int .i64 n3, .slice o3 l3 c3] 25)) hb4)
    have ha4 : At R L w4 _ _ := ⟨A3.out.fix.butt hbx, A3.out.rs.below (Below.chain ((Below.refl _ _).alloc (Nat.le_refl _) (Obj.cells #[.int .i64 k3, .int .i64 a3, .string t3, .int .i64 n3, .slice o3 l3 c3] 25)) hb4)⟩
    have TN := Lib.hid (synIn_mk.mpr ⟨_, rfl, KI.out.below hb4⟩ : synIn (offs w.heap.size [w.heap.size]) w4 (.mk 5 ea ⟨#[]⟩ 0 [(.mk k3 a3 t3 n3 q3)]) _)
    have hb4 := hbx; clear hbx
    have A4 := Lib.hid ha4; have B4 := Lib.hid (B3.out.trans hb4)
    have XR4 := Lib.hid (XR3.out.butt HPR.out hb4)
    clear ha4 hb4
    refine Lib.hid ?_
    have FT := Lib.hid (store5 HA0.out B4.out A4.out XR4.out (Nat.le_refl _) (.int .i64 5) (.int .i64 ea) (.string ⟨#[]⟩) (.int .i64 0) (.slice (some ⟨w3.heap.size, 0, none⟩) 1 1) _ rfl)
    have GX := Lib.hid ((TN.out).kept (by simp) FT.out.2.2.2).at
    have zXR := XR4.out
    have yXR0 := zXR.c0
    have yXR1 := zXR.c1
    have yXR2 := zXR.c2
    have yXR3 := zXR.c3
    have yXR4 := zXR.c4
    have fXR0 := zXR.free 0
    have fXR1 := zXR.free 1
    have fXR2 := zXR.free 2
    have fXR3 := zXR.free 3
    have fXR4 := zXR.free 4
    clear zXR
    obtain ⟨r0, r1, r2, r3, r4⟩ := FT.out.1
    have GA := Lib.hid FT.out.2.1; have GB := Lib.hid FT.out.2.2.1
    clear FT
    go_wp2
    refine bodyPost_ret (by simp [results, Tryz.results88, go_sem, r0, r1, r2, r3, r4]; rfl) rfl ?_
    exact ⟨_, _, _, rfl, GX.out, HM.out _ _ HS3.out, GA.out, GB.out⟩
  | false =>
    rw [hb, if_neg Bool.false_ne_true] at CA
    have HM : Hid (Run (mWhen wEnsures d) st (.mk 5 (cur L st).a ⟨#[]⟩ 0 []) st) := Lib.hid (Run.bind hpk (Run.bind his (Run.ite (fun h => absurd (hb.symm.trans h) (by decide)) (fun _ => run_ret hfi))))
    generalize (cur L st).a = ea at *
    have KH := Lib.hid CH; have KA := Lib.hid CA
    have HA0 := Lib.hid h
    have HLT := Lib.hid h.fix.lt; have HRW := Lib.hid h.fix.lt
    have hA := h.alloc (Obj.cells #[.int .i64 0, .int .i64 0, .string ⟨#[]⟩, .int .i64 0, .slice none 0 0] 25)
    have hB := (Butt.refl R w).alloc h.fix.lt (Obj.cells #[.int .i64 0, .int .i64 0, .string ⟨#[]⟩, .int .i64 0, .slice none 0 0] 25)
    have hX := Bx5.new w (.int .i64 0) (.int .i64 0) (.string ⟨#[]⟩) (.int .i64 0) (.slice none 0 0)
    have hpR : w.heap.size ≠ R := fun e => absurd h.fix.lt (by rw [e]; exact Nat.lt_irrefl _)
    have hls : w.heap.size < (w.alloc (Obj.cells #[.int .i64 0, .int .i64 0, .string ⟨#[]⟩, .int .i64 0, .slice none 0 0] 25)).heap.size := by simp
    have A0 := Lib.hid hA; have B0 := Lib.hid hB; have XR0 := Lib.hid hX; have HPR := Lib.hid hpR; have HLS := Lib.hid hls
    clear hA hB hX hpR hls h CH CA K hb hpk his hfi
    go_enter Tryz.func88, Tryz.ntmps88
    go_wp2_with (go_at_call 56; refine (KH.out _ A0.out).mono ?_; rintro e w1 ⟨rfl, ha1, hb1⟩; refine Hid.out ?_)
    have A1 := Lib.hid ha1; have B1 := Lib.hid (B0.out.trans hb1)
    have XR1 := Lib.hid (XR0.out.butt HPR.out hb1)
    clear ha1 hb1
    refine Lib.hid ?_
    go_wp2_with (go_at_call 84; refine (KA.out _ A1.out).mono ?_; rintro e w2 ⟨rfl, ha2, hb2⟩; refine Hid.out ?_)
    have A2 := Lib.hid ha2; have B2 := Lib.hid (B1.out.trans hb2)
    have XR2 := Lib.hid (XR1.out.butt HPR.out hb2)
    clear ha2 hb2
    refine Lib.hid ?_
    go_wp2_with (go_at_call 59; refine (pnode_any _ _ _ _ _ _ _).mono ?_; rintro e w3 ⟨rfl, hb3⟩; refine Hid.out ?_)
    have hbx := Butt.of_below (R := R) A2.out.fix.lt hb3
    have ha3 : At R L w3 _ _ := ⟨A2.out.fix.butt hbx, A2.out.rs.below hb3⟩
    have TN := Lib.hid (synIn_mk.mpr ⟨_, rfl, (Or.inl ⟨rfl, rfl⟩)⟩ : synIn (offs w.heap.size [w.heap.size]) w3 (.mk 5 ea ⟨#[]⟩ 0 []) _)
    have hb3 := hbx; clear hbx
    have A3 := Lib.hid ha3; have B3 := Lib.hid (B2.out.trans hb3)
    have XR3 := Lib.hid (XR2.out.butt HPR.out hb3)
    clear ha3 hb3
    refine Lib.hid ?_
    have FT := Lib.hid (store5 HA0.out B3.out A3.out XR3.out (Nat.le_refl _) (.int .i64 5) (.int .i64 ea) (.string ⟨#[]⟩) (.int .i64 0) (.slice none 0 0) _ rfl)
    have GX := Lib.hid ((TN.out).kept (by simp) FT.out.2.2.2).at
    have zXR := XR3.out
    have yXR0 := zXR.c0
    have yXR1 := zXR.c1
    have yXR2 := zXR.c2
    have yXR3 := zXR.c3
    have yXR4 := zXR.c4
    have fXR0 := zXR.free 0
    have fXR1 := zXR.free 1
    have fXR2 := zXR.free 2
    have fXR3 := zXR.free 3
    have fXR4 := zXR.free 4
    clear zXR
    obtain ⟨r0, r1, r2, r3, r4⟩ := FT.out.1
    have GA := Lib.hid FT.out.2.1; have GB := Lib.hid FT.out.2.2.1
    clear FT
    go_wp2
    refine bodyPost_ret (by simp [results, Tryz.results88, go_sem, r0, r1, r2, r3, r4]; rfl) rfl ?_
    exact ⟨_, _, _, rfl, GX.out, HM.out, GA.out, GB.out⟩
set_option maxRecDepth 20000 in
set_option maxHeartbeats 1000000 in
theorem pparameters {R : Nat} {L : List Tk} {d : Nat} {st : RSt} {w : World} (h : At R L w d st)  :
    Calls Tryz.prog 86 #[.pointer (some ⟨R, 0, none⟩)] w (PS R L (fun x st' => Run (mParams d) st x st') d w) := by
  have hfi := h.fine
  have CE := fun W (H : At R L W d st) => sexpect H ⟨#[40]⟩
  have f1 := needS_fine (can := tIs L st ⟨#[40]⟩) hfi
  have hne := run_need (L := L) hfi [40]
  have HM := Lib.hid (fun xs s' (hs : LBef L ⟨#[41]⟩ .param d (needS (tIs L st ⟨#[40]⟩) st) xs s') => (Run.bind hne (Run.bind (run_before (s := [41]) f1 hs) (Run.bind (run_need (L := L) (Run.fine (run_before (s := [41]) f1 hs) f1) [41]) (run_ret (needS_fine (Run.fine (run_before (s := [41]) f1 hs) f1))))) : Run (mParams d) st (.mk 3 (tokM L st (tIs L st ⟨#[40]⟩)).a ⟨#[]⟩ 0 xs) (needS (tIs L s' ⟨#[41]⟩) s')))
  have CL := fun W (H : At R L W d (needS (tIs L st ⟨#[40]⟩) st)) => pbefore_parameter H (fun s hs W2 H2 => sparameter H2)
  generalize tokM L st (tIs L st ⟨#[40]⟩) = T at *
  obtain ⟨ek, et, ea⟩ := T
  unfold tkA at *
  dsimp only at *
  generalize needS (tIs L st ⟨#[40]⟩) st = s1 at *
  have KE := Lib.hid CE; have KL := Lib.hid CL
  have HA0 := Lib.hid h
  have HLT := Lib.hid h.fix.lt; have HRW := Lib.hid h.fix.lt
  have hA := h.alloc (Obj.cells #[.int .i64 0, .int .i64 0, .string ⟨#[]⟩, .int .i64 0, .slice none 0 0] 25)
  have hB := (Butt.refl R w).alloc h.fix.lt (Obj.cells #[.int .i64 0, .int .i64 0, .string ⟨#[]⟩, .int .i64 0, .slice none 0 0] 25)
  have hX := Bx5.new w (.int .i64 0) (.int .i64 0) (.string ⟨#[]⟩) (.int .i64 0) (.slice none 0 0)
  have hpR : w.heap.size ≠ R := fun e => absurd h.fix.lt (by rw [e]; exact Nat.lt_irrefl _)
  have hls : w.heap.size < (w.alloc (Obj.cells #[.int .i64 0, .int .i64 0, .string ⟨#[]⟩, .int .i64 0, .slice none 0 0] 25)).heap.size := by simp
  have A0 := Lib.hid hA; have B0 := Lib.hid hB; have XR0 := Lib.hid hX; have HPR := Lib.hid hpR; have HLS := Lib.hid hls
  clear hA hB hX hpR hls h CE CL hfi f1 hne
  go_enter Tryz.func86, Tryz.ntmps86
  go_wp2_with (go_at_call 55; refine (KE.out _ A0.out).mono ?_; rintro e w1 ⟨rfl, ha1, hb1⟩; refine Hid.out ?_)
  have A1 := Lib.hid ha1; have B1 := Lib.hid (B0.out.trans hb1)
  have XR1 := Lib.hid (XR0.out.butt HPR.out hb1)
  clear ha1 hb1
  refine Lib.hid ?_
  have A1a := Lib.hid (A1.out.alloc (Obj.cells #[.int .i64 ek, .string et, .int .i64 ea] 47)); have B1a := Lib.hid (B1.out.alloc HRW.out (Obj.cells #[.int .i64 ek, .string et, .int .i64 ea] 47))
  have XR1a := Lib.hid (XR1.out.alloc (Obj.cells #[.int .i64 ek, .string et, .int .i64 ea] 47))
  have PTT : Hid (w1.heap.size ≠ R) := Lib.hid (fun e => absurd (A1.out.fix.lt) (by rw [e]; exact Nat.lt_irrefl _))
  have TT1a := Lib.hid (Bx3.new w1 (.int .i64 ek) (.string et) (.int .i64 ea))
  go_wp2_with (go_at_call 112; refine (KL.out _ A1a.out).mono ?_; rintro e w2 ⟨x2, v2, s2, rfl, hx2, hn2, hs2, ha2, hb2⟩; refine Hid.out ?_)
  obtain ⟨o2, c2, rfl⟩ := hx2.slice
  have RW2 := Lib.hid (ownT.kidsIn (ps := [w.heap.size]) hx2 (Nat.le_trans (Nat.le_refl _) B1a.out.size) (fun p hp => by simp only [List.mem_cons, List.not_mem_nil, or_false] at hp; have g0 := XR1a.out.lt; omega))
  have HS2 := Lib.hid hs2; have HN2 := Lib.hid hn2
  have A2 := Lib.hid ha2; have B2 := Lib.hid (B1a.out.trans hb2)
  have XR2 := Lib.hid (XR1a.out.butt HPR.out hb2)
  have TT2 := Lib.hid (TT1a.out.butt PTT.out hb2)
  clear ha2 hb2 hx2 hs2 hn2
  refine Lib.hid ?_
  go_wp2_with (go_at_call 55; refine (sexpect A2.out ⟨#[41]⟩).mono ?_; rintro e w3 ⟨rfl, ha3, hb3⟩; refine Hid.out ?_)
  have A3 := Lib.hid ha3; have B3 := Lib.hid (B2.out.trans hb3)
  have XR3 := Lib.hid (XR2.out.butt HPR.out hb3)
  have TT3 := Lib.hid (TT2.out.butt PTT.out hb3)
  have RW23 := Lib.hid (RW2.out.butt HLT.out hb3)
  clear ha3 hb3
  refine Lib.hid ?_
  have zTT := TT3.out
  have yTT0 := zTT.c0
  have yTT1 := zTT.c1
  have yTT2 := zTT.c2
  clear zTT
  go_wp2_with (go_at_call 59; refine (pnode_any _ _ _ _ _ _ _).mono ?_; rintro e w4 ⟨rfl, hb4⟩; refine Hid.out ?_)
  have hbx := Butt.of_below (R := R) A3.out.fix.lt hb4
  have ha4 : At R L w4 _ _ := ⟨A3.out.fix.butt hbx, A3.out.rs.below hb4⟩
  have TN := Lib.hid (synIn_mk.mpr ⟨_, rfl, RW23.out.below hb4⟩ : synIn (offs w.heap.size [w.heap.size]) w4 (.mk 3 ea ⟨#[]⟩ 0 x2) _)
  have hb4 := hbx; clear hbx
  have A4 := Lib.hid ha4; have B4 := Lib.hid (B3.out.trans hb4)
  have XR4 := Lib.hid (XR3.out.butt HPR.out hb4)
  have TT4 := Lib.hid (TT3.out.butt PTT.out hb4)
  clear ha4 hb4
  refine Lib.hid ?_
  have FT := Lib.hid (store5 HA0.out B4.out A4.out XR4.out (Nat.le_refl _) (.int .i64 3) (.int .i64 ea) (.string ⟨#[]⟩) (.int .i64 0) (.slice o2 x2.length c2) _ rfl)
  have GX := Lib.hid ((TN.out).kept (by simp) FT.out.2.2.2).at
  have zXR := XR4.out
  have yXR0 := zXR.c0
  have yXR1 := zXR.c1
  have yXR2 := zXR.c2
  have yXR3 := zXR.c3
  have yXR4 := zXR.c4
  have fXR0 := zXR.free 0
  have fXR1 := zXR.free 1
  have fXR2 := zXR.free 2
  have fXR3 := zXR.free 3
  have fXR4 := zXR.free 4
  clear zXR
  obtain ⟨r0, r1, r2, r3, r4⟩ := FT.out.1
  have GA := Lib.hid FT.out.2.1; have GB := Lib.hid FT.out.2.2.1
  clear FT
  go_wp2
  refine bodyPost_ret (by simp [results, Tryz.results86, go_sem, r0, r1, r2, r3, r4]; rfl) rfl ?_
  exact ⟨_, _, _, rfl, GX.out, HM.out _ _ HS2.out, GA.out, GB.out⟩
set_option maxRecDepth 20000 in
set_option maxHeartbeats 1000000 in
theorem presults {R : Nat} {L : List Tk} {d : Nat} {st : RSt} {w : World} (h : At R L w d st)  :
    Calls Tryz.prog 87 #[.pointer (some ⟨R, 0, none⟩)] w (PS R L (fun x st' => Run (mResults d) st x st') d w) := by
  have hfi := h.fine
  have CA := fun W (H : At R L W d st) => saccept H ⟨#[114, 101, 116, 117, 114, 110, 115]⟩
  have CH := fun W (H : At R L W d st) => shere H
  have his := run_is (L := L) hfi wReturns
  cases hb : tIs L st ⟨#[114, 101, 116, 117, 114, 110, 115]⟩ with
  | true =>
    rw [hb, if_pos rfl] at CA
    have f0 := RSt.takeS_fine hfi
    have f1 := needS_fine (can := tIs L (takeS st) ⟨#[40]⟩) f0
    have hne := run_need (L := L) f0 [40]
    have HM := Lib.hid (fun xs s' (hs : Stp (.list .param) d (needS (tIs L (takeS st) ⟨#[40]⟩) (takeS st)) xs s') => (Run.bind his (Run.ite (fun _ => Run.bind (run_take (L := L) hfi) (Run.bind hne (Run.bind hs (Run.bind (run_need (L := L) (Run.fine hs f1) [41]) (run_ret (needS_fine (Run.fine hs f1))))))) (fun h => absurd hb h)) : Run (mResults d) st (.mk 3 (tokM L (takeS st) (tIs L (takeS st) ⟨#[40]⟩)).a ⟨#[]⟩ 0 xs) (needS (tIs L s' ⟨#[41]⟩) s')))
    have CE := fun W (H : At R L W d (takeS st)) => sexpect H ⟨#[40]⟩
    have CL := fun W (H : At R L W d (needS (tIs L (takeS st) ⟨#[40]⟩) (takeS st))) => plist_parameter H (fun s hs W2 H2 => sparameter H2)
    generalize tokM L (takeS st) (tIs L (takeS st) ⟨#[40]⟩) = T at *
    obtain ⟨ek, et, ea⟩ := T
    unfold tkA at *
    dsimp only at *
    generalize needS (tIs L (takeS st) ⟨#[40]⟩) (takeS st) = s1 at *
    have KA := Lib.hid CA; have KE := Lib.hid CE; have KL := Lib.hid CL
    have HA0 := Lib.hid h
    have HLT := Lib.hid h.fix.lt; have HRW := Lib.hid h.fix.lt
    have hA := h.alloc (Obj.cells #[.int .i64 0, .int .i64 0, .string ⟨#[]⟩, .int .i64 0, .slice none 0 0] 25)
    have hB := (Butt.refl R w).alloc h.fix.lt (Obj.cells #[.int .i64 0, .int .i64 0, .string ⟨#[]⟩, .int .i64 0, .slice none 0 0] 25)
    have hX := Bx5.new w (.int .i64 0) (.int .i64 0) (.string ⟨#[]⟩) (.int .i64 0) (.slice none 0 0)
    have hpR : w.heap.size ≠ R := fun e => absurd h.fix.lt (by rw [e]; exact Nat.lt_irrefl _)
    have hls : w.heap.size < (w.alloc (Obj.cells #[.int .i64 0, .int .i64 0, .string ⟨#[]⟩, .int .i64 0, .slice none 0 0] 25)).heap.size := by simp
    have A0 := Lib.hid hA; have B0 := Lib.hid hB; have XR0 := Lib.hid hX; have HPR := Lib.hid hpR; have HLS := Lib.hid hls
    clear hA hB hX hpR hls h CA CH CE CL hfi f0 f1 hne his hb
    go_enter Tryz.func87, Tryz.ntmps87
    go_wp2_with (go_at_call 84; refine (KA.out _ A0.out).mono ?_; rintro e w1 ⟨rfl, ha1, hb1⟩; refine Hid.out ?_)
    have A1 := Lib.hid ha1; have B1 := Lib.hid (B0.out.trans hb1)
    have XR1 := Lib.hid (XR0.out.butt HPR.out hb1)
    clear ha1 hb1
    refine Lib.hid ?_
    go_wp2_with (go_at_call 55; refine (KE.out _ A1.out).mono ?_; rintro e w2 ⟨rfl, ha2, hb2⟩; refine Hid.out ?_)
    have A2 := Lib.hid ha2; have B2 := Lib.hid (B1.out.trans hb2)
    have XR2 := Lib.hid (XR1.out.butt HPR.out hb2)
    clear ha2 hb2
    refine Lib.hid ?_
    have A2a := Lib.hid (A2.out.alloc (Obj.cells #[.int .i64 ek, .string et, .int .i64 ea] 47)); have B2a := Lib.hid (B2.out.alloc HRW.out (Obj.cells #[.int .i64 ek, .string et, .int .i64 ea] 47))
    have XR2a := Lib.hid (XR2.out.alloc (Obj.cells #[.int .i64 ek, .string et, .int .i64 ea] 47))
    have PTT : Hid (w2.heap.size ≠ R) := Lib.hid (fun e => absurd (A2.out.fix.lt) (by rw [e]; exact Nat.lt_irrefl _))
    have TT2a := Lib.hid (Bx3.new w2 (.int .i64 ek) (.string et) (.int .i64 ea))
    go_wp2_with (go_at_call 96; refine (KL.out _ A2a.out).mono ?_; rintro e w3 ⟨x3, v3, s3, rfl, hx3, hn3, hs3, ha3, hb3⟩; refine Hid.out ?_)
    obtain ⟨o3, c3, rfl⟩ := hx3.slice
    have RW3 := Lib.hid (ownT.kidsIn (ps := [w.heap.size]) hx3 (Nat.le_trans (Nat.le_refl _) B2a.out.size) (fun p hp => by simp only [List.mem_cons, List.not_mem_nil, or_false] at hp; have g0 := XR2a.out.lt; omega))
    have HS3 := Lib.hid hs3; have HN3 := Lib.hid hn3
    have A3 := Lib.hid ha3; have B3 := Lib.hid (B2a.out.trans hb3)
    have XR3 := Lib.hid (XR2a.out.butt HPR.out hb3)
    have TT3 := Lib.hid (TT2a.out.butt PTT.out hb3)
    clear ha3 hb3 hx3 hs3 hn3
    refine Lib.hid ?_
    go_wp2_with (go_at_call 55; refine (sexpect A3.out ⟨#[41]⟩).mono ?_; rintro e w4 ⟨rfl, ha4, hb4⟩; refine Hid.out ?_)
    have A4 := Lib.hid ha4; have B4 := Lib.hid (B3.out.trans hb4)
    have XR4 := Lib.hid (XR3.out.butt HPR.out hb4)
    have TT4 := Lib.hid (TT3.out.butt PTT.out hb4)
    have RW34 := Lib.hid (RW3.out.butt HLT.out hb4)
    clear ha4 hb4
    refine Lib.hid ?_
    have zTT := TT4.out
    have yTT0 := zTT.c0
    have yTT1 := zTT.c1
    have yTT2 := zTT.c2
    clear zTT
    go_wp2_with (go_at_call 59; refine (pnode_any _ _ _ _ _ _ _).mono ?_; rintro e w5 ⟨rfl, hb5⟩; refine Hid.out ?_)
    have hbx := Butt.of_below (R := R) A4.out.fix.lt hb5
    have ha5 : At R L w5 _ _ := ⟨A4.out.fix.butt hbx, A4.out.rs.below hb5⟩
    have TN := Lib.hid (synIn_mk.mpr ⟨_, rfl, RW34.out.below hb5⟩ : synIn (offs w.heap.size [w.heap.size]) w5 (.mk 3 ea ⟨#[]⟩ 0 x3) _)
    have hb5 := hbx; clear hbx
    have A5 := Lib.hid ha5; have B5 := Lib.hid (B4.out.trans hb5)
    have XR5 := Lib.hid (XR4.out.butt HPR.out hb5)
    have TT5 := Lib.hid (TT4.out.butt PTT.out hb5)
    clear ha5 hb5
    refine Lib.hid ?_
    have FT := Lib.hid (store5 HA0.out B5.out A5.out XR5.out (Nat.le_refl _) (.int .i64 3) (.int .i64 ea) (.string ⟨#[]⟩) (.int .i64 0) (.slice o3 x3.length c3) _ rfl)
    have GX := Lib.hid ((TN.out).kept (by simp) FT.out.2.2.2).at
    have zXR := XR5.out
    have yXR0 := zXR.c0
    have yXR1 := zXR.c1
    have yXR2 := zXR.c2
    have yXR3 := zXR.c3
    have yXR4 := zXR.c4
    have fXR0 := zXR.free 0
    have fXR1 := zXR.free 1
    have fXR2 := zXR.free 2
    have fXR3 := zXR.free 3
    have fXR4 := zXR.free 4
    clear zXR
    obtain ⟨r0, r1, r2, r3, r4⟩ := FT.out.1
    have GA := Lib.hid FT.out.2.1; have GB := Lib.hid FT.out.2.2.1
    clear FT
    go_wp2
    refine bodyPost_ret (by simp [results, Tryz.results87, go_sem, r0, r1, r2, r3, r4]; rfl) rfl ?_
    exact ⟨_, _, _, rfl, GX.out, HM.out _ _ HS3.out, GA.out, GB.out⟩
  | false =>
    rw [hb, if_neg Bool.false_ne_true] at CA
    have HM : Hid (Run (mResults d) st (.mk 3 (cur L st).a ⟨#[]⟩ 0 []) st) := Lib.hid (Run.bind his (Run.ite (fun h => absurd (hb.symm.trans h) (by decide)) (fun _ => Run.bind (run_peek (L := L) hfi) (run_ret hfi))))
    generalize (cur L st).a = ea at *
    have KH := Lib.hid CH; have KA := Lib.hid CA
    have HA0 := Lib.hid h
    have HLT := Lib.hid h.fix.lt; have HRW := Lib.hid h.fix.lt
    have hA := h.alloc (Obj.cells #[.int .i64 0, .int .i64 0, .string ⟨#[]⟩, .int .i64 0, .slice none 0 0] 25)
    have hB := (Butt.refl R w).alloc h.fix.lt (Obj.cells #[.int .i64 0, .int .i64 0, .string ⟨#[]⟩, .int .i64 0, .slice none 0 0] 25)
    have hX := Bx5.new w (.int .i64 0) (.int .i64 0) (.string ⟨#[]⟩) (.int .i64 0) (.slice none 0 0)
    have hpR : w.heap.size ≠ R := fun e => absurd h.fix.lt (by rw [e]; exact Nat.lt_irrefl _)
    have hls : w.heap.size < (w.alloc (Obj.cells #[.int .i64 0, .int .i64 0, .string ⟨#[]⟩, .int .i64 0, .slice none 0 0] 25)).heap.size := by simp
    have A0 := Lib.hid hA; have B0 := Lib.hid hB; have XR0 := Lib.hid hX; have HPR := Lib.hid hpR; have HLS := Lib.hid hls
    clear hA hB hX hpR hls h CH CA his hb hfi
    go_enter Tryz.func87, Tryz.ntmps87
    go_wp2_with (go_at_call 84; refine (KA.out _ A0.out).mono ?_; rintro e w1 ⟨rfl, ha1, hb1⟩; refine Hid.out ?_)
    have A1 := Lib.hid ha1; have B1 := Lib.hid (B0.out.trans hb1)
    have XR1 := Lib.hid (XR0.out.butt HPR.out hb1)
    clear ha1 hb1
    refine Lib.hid ?_
    go_wp2_with (go_at_call 56; refine (KH.out _ A1.out).mono ?_; rintro e w2 ⟨rfl, ha2, hb2⟩; refine Hid.out ?_)
    have A2 := Lib.hid ha2; have B2 := Lib.hid (B1.out.trans hb2)
    have XR2 := Lib.hid (XR1.out.butt HPR.out hb2)
    clear ha2 hb2
    refine Lib.hid ?_
    go_wp2_with (go_at_call 59; refine (pnode_any _ _ _ _ _ _ _).mono ?_; rintro e w3 ⟨rfl, hb3⟩; refine Hid.out ?_)
    have hbx := Butt.of_below (R := R) A2.out.fix.lt hb3
    have ha3 : At R L w3 _ _ := ⟨A2.out.fix.butt hbx, A2.out.rs.below hb3⟩
    have TN := Lib.hid (synIn_mk.mpr ⟨_, rfl, (Or.inl ⟨rfl, rfl⟩)⟩ : synIn (offs w.heap.size [w.heap.size]) w3 (.mk 3 ea ⟨#[]⟩ 0 []) _)
    have hb3 := hbx; clear hbx
    have A3 := Lib.hid ha3; have B3 := Lib.hid (B2.out.trans hb3)
    have XR3 := Lib.hid (XR2.out.butt HPR.out hb3)
    clear ha3 hb3
    refine Lib.hid ?_
    have FT := Lib.hid (store5 HA0.out B3.out A3.out XR3.out (Nat.le_refl _) (.int .i64 3) (.int .i64 ea) (.string ⟨#[]⟩) (.int .i64 0) (.slice none 0 0) _ rfl)
    have GX := Lib.hid ((TN.out).kept (by simp) FT.out.2.2.2).at
    have zXR := XR3.out
    have yXR0 := zXR.c0
    have yXR1 := zXR.c1
    have yXR2 := zXR.c2
    have yXR3 := zXR.c3
    have yXR4 := zXR.c4
    have fXR0 := zXR.free 0
    have fXR1 := zXR.free 1
    have fXR2 := zXR.free 2
    have fXR3 := zXR.free 3
    have fXR4 := zXR.free 4
    clear zXR
    obtain ⟨r0, r1, r2, r3, r4⟩ := FT.out.1
    have GA := Lib.hid FT.out.2.1; have GB := Lib.hid FT.out.2.2.1
    clear FT
    go_wp2
    refine bodyPost_ret (by simp [results, Tryz.results87, go_sem, r0, r1, r2, r3, r4]; rfl) rfl ?_
    exact ⟨_, _, _, rfl, GX.out, HM.out, GA.out, GB.out⟩
set_option maxRecDepth 20000 in
set_option maxHeartbeats 1000000 in
theorem pvariables {R : Nat} {L : List Tk} {d : Nat} {st : RSt} {w : World} (h : At R L w d st) (hv : tIs L st ⟨#[118, 97, 114]⟩ = true) :
    Calls Tryz.prog 140 #[.pointer (some ⟨R, 0, none⟩)] w (PS R L (fun x st' => Run (mVars d) st x st') d w) := by
  have hfi := h.fine
  have CE := fun W (H : At R L W d st) => sexpect H ⟨#[118, 97, 114]⟩
  rw [hv, tokM_true] at CE
  have e : needS true st = takeS st := by cases st <;> rfl
  rw [e] at CE
  have f0 := RSt.takeS_fine hfi
  have HM := Lib.hid (fun xs s' (hs : Stp (.list .param) d (takeS st) xs s') => (Run.bind (run_take (L := L) hfi) (Run.bind hs (Run.bind (run_need (L := L) (Run.fine hs f0) [59]) (run_ret (needS_fine (Run.fine hs f0))))) : Run (mVars d) st (.mk 7 (cur L st).a ⟨#[]⟩ 0 xs) (needS (tIs L s' ⟨#[59]⟩) s')))
  have CL := fun W (H : At R L W d (takeS st)) => plist_parameter H (fun s hs W2 H2 => sparameter H2)
  generalize cur L st = T at *
  obtain ⟨ek, et, ea⟩ := T
  unfold tkA at *
  dsimp only at *
  have KE := Lib.hid CE; have KL := Lib.hid CL
  have HA0 := Lib.hid h
  have HLT := Lib.hid h.fix.lt; have HRW := Lib.hid h.fix.lt
  have hA := h.alloc (Obj.cells #[.int .i64 0, .int .i64 0, .string ⟨#[]⟩, .int .i64 0, .slice none 0 0] 25)
  have hB := (Butt.refl R w).alloc h.fix.lt (Obj.cells #[.int .i64 0, .int .i64 0, .string ⟨#[]⟩, .int .i64 0, .slice none 0 0] 25)
  have hX := Bx5.new w (.int .i64 0) (.int .i64 0) (.string ⟨#[]⟩) (.int .i64 0) (.slice none 0 0)
  have hpR : w.heap.size ≠ R := fun e => absurd h.fix.lt (by rw [e]; exact Nat.lt_irrefl _)
  have hls : w.heap.size < (w.alloc (Obj.cells #[.int .i64 0, .int .i64 0, .string ⟨#[]⟩, .int .i64 0, .slice none 0 0] 25)).heap.size := by simp
  have A0 := Lib.hid hA; have B0 := Lib.hid hB; have XR0 := Lib.hid hX; have HPR := Lib.hid hpR; have HLS := Lib.hid hls
  clear hA hB hX hpR hls h CE CL hfi f0 e hv
  go_enter Tryz.func140, Tryz.ntmps140
  go_wp2_with (go_at_call 55; refine (KE.out _ A0.out).mono ?_; rintro e w1 ⟨rfl, ha1, hb1⟩; refine Hid.out ?_)
  have A1 := Lib.hid ha1; have B1 := Lib.hid (B0.out.trans hb1)
  have XR1 := Lib.hid (XR0.out.butt HPR.out hb1)
  clear ha1 hb1
  refine Lib.hid ?_
  have A1a := Lib.hid (A1.out.alloc (Obj.cells #[.int .i64 ek, .string et, .int .i64 ea] 47)); have B1a := Lib.hid (B1.out.alloc HRW.out (Obj.cells #[.int .i64 ek, .string et, .int .i64 ea] 47))
  have XR1a := Lib.hid (XR1.out.alloc (Obj.cells #[.int .i64 ek, .string et, .int .i64 ea] 47))
  have PTT : Hid (w1.heap.size ≠ R) := Lib.hid (fun e => absurd (A1.out.fix.lt) (by rw [e]; exact Nat.lt_irrefl _))
  have TT1a := Lib.hid (Bx3.new w1 (.int .i64 ek) (.string et) (.int .i64 ea))
  go_wp2_with (go_at_call 96; refine (KL.out _ A1a.out).mono ?_; rintro e w2 ⟨x2, v2, s2, rfl, hx2, hn2, hs2, ha2, hb2⟩; refine Hid.out ?_)
  obtain ⟨o2, c2, rfl⟩ := hx2.slice
  have RW2 := Lib.hid (ownT.kidsIn (ps := [w.heap.size]) hx2 (Nat.le_trans (Nat.le_refl _) B1a.out.size) (fun p hp => by simp only [List.mem_cons, List.not_mem_nil, or_false] at hp; have g0 := XR1a.out.lt; omega))
  have HS2 := Lib.hid hs2; have HN2 := Lib.hid hn2
  have A2 := Lib.hid ha2; have B2 := Lib.hid (B1a.out.trans hb2)
  have XR2 := Lib.hid (XR1a.out.butt HPR.out hb2)
  have TT2 := Lib.hid (TT1a.out.butt PTT.out hb2)
  clear ha2 hb2 hx2 hs2 hn2
  refine Lib.hid ?_
  go_wp2_with (go_at_call 55; refine (sexpect A2.out ⟨#[59]⟩).mono ?_; rintro e w3 ⟨rfl, ha3, hb3⟩; refine Hid.out ?_)
  have A3 := Lib.hid ha3; have B3 := Lib.hid (B2.out.trans hb3)
  have XR3 := Lib.hid (XR2.out.butt HPR.out hb3)
  have TT3 := Lib.hid (TT2.out.butt PTT.out hb3)
  have RW23 := Lib.hid (RW2.out.butt HLT.out hb3)
  clear ha3 hb3
  refine Lib.hid ?_
  have zTT := TT3.out
  have yTT0 := zTT.c0
  have yTT1 := zTT.c1
  have yTT2 := zTT.c2
  clear zTT
  go_wp2_with (go_at_call 59; refine (pnode_any _ _ _ _ _ _ _).mono ?_; rintro e w4 ⟨rfl, hb4⟩; refine Hid.out ?_)
  have hbx := Butt.of_below (R := R) A3.out.fix.lt hb4
  have ha4 : At R L w4 _ _ := ⟨A3.out.fix.butt hbx, A3.out.rs.below hb4⟩
  have TN := Lib.hid (synIn_mk.mpr ⟨_, rfl, RW23.out.below hb4⟩ : synIn (offs w.heap.size [w.heap.size]) w4 (.mk 7 ea ⟨#[]⟩ 0 x2) _)
  have hb4 := hbx; clear hbx
  have A4 := Lib.hid ha4; have B4 := Lib.hid (B3.out.trans hb4)
  have XR4 := Lib.hid (XR3.out.butt HPR.out hb4)
  have TT4 := Lib.hid (TT3.out.butt PTT.out hb4)
  clear ha4 hb4
  refine Lib.hid ?_
  have FT := Lib.hid (store5 HA0.out B4.out A4.out XR4.out (Nat.le_refl _) (.int .i64 7) (.int .i64 ea) (.string ⟨#[]⟩) (.int .i64 0) (.slice o2 x2.length c2) _ rfl)
  have GX := Lib.hid ((TN.out).kept (by simp) FT.out.2.2.2).at
  have zXR := XR4.out
  have yXR0 := zXR.c0
  have yXR1 := zXR.c1
  have yXR2 := zXR.c2
  have yXR3 := zXR.c3
  have yXR4 := zXR.c4
  have fXR0 := zXR.free 0
  have fXR1 := zXR.free 1
  have fXR2 := zXR.free 2
  have fXR3 := zXR.free 3
  have fXR4 := zXR.free 4
  clear zXR
  obtain ⟨r0, r1, r2, r3, r4⟩ := FT.out.1
  have GA := Lib.hid FT.out.2.1; have GB := Lib.hid FT.out.2.2.1
  clear FT
  go_wp2
  refine bodyPost_ret (by simp [results, Tryz.results140, go_sem, r0, r1, r2, r3, r4]; rfl) rfl ?_
  exact ⟨_, _, _, rfl, GX.out, HM.out _ _ HS2.out, GA.out, GB.out⟩
set_option maxRecDepth 20000 in
set_option maxHeartbeats 1000000 in
theorem precord {R : Nat} {L : List Tk} {d : Nat} {st : RSt} {w : World} (h : At R L w d st)  :
    Calls Tryz.prog 58 #[.pointer (some ⟨R, 0, none⟩)] w (PT R L .record d st w) := by
  have hfi := h.fine
  have CE := fun W (H : At R L W d st) => sexpect H ⟨#[114, 101, 99, 111, 114, 100]⟩
  have f1 := needS_fine (can := tIs L st ⟨#[114, 101, 99, 111, 114, 100]⟩) hfi
  have h1 := run_need (L := L) hfi wRecord
  generalize hs1 : needS (tIs L st ⟨#[114, 101, 99, 111, 114, 100]⟩) st = s1 at *
  have h1 : Run (mNeed wRecord) st (tokM L st (tIs L st ⟨#[114, 101, 99, 111, 114, 100]⟩)) s1 := hs1 ▸ h1
  have CN := fun W (H : At R L W d s1) => sname H
  have h2 := run_name (L := L) f1
  have f2 := needS_fine (can := isN (cur L s1)) f1
  generalize needS (isN (cur L s1)) s1 = s2 at *
  have h3 := run_need (L := L) f2 [123]
  have f3 := needS_fine (can := tIs L s2 ⟨#[123]⟩) f2
  have HM := Lib.hid (fun xs s' (hs : Stp (.list .bare) d (needS (tIs L s2 ⟨#[123]⟩) s2) xs s') => st_record (Run.bind h1 (Run.bind h2 (Run.bind h3 (Run.bind hs (Run.bind (run_need (L := L) (Run.fine hs f3) [125]) (run_ret (needS_fine (Run.fine hs f3)))))))))
  have CL := fun W (H : At R L W d (needS (tIs L s2 ⟨#[123]⟩) s2)) => plist_bare H (fun s hs W2 H2 => sbare H2)
  generalize tokM L st (tIs L st ⟨#[114, 101, 99, 111, 114, 100]⟩) = T at *
  obtain ⟨ek, et, ea⟩ := T
  generalize tokM L s1 (isN (cur L s1)) = T at *
  obtain ⟨uk, ut, ua⟩ := T
  unfold tkA at *
  dsimp only at *
  have KE := Lib.hid CE; have KN := Lib.hid CN; have KL := Lib.hid CL
  have HA0 := Lib.hid h
  have HLT := Lib.hid h.fix.lt; have HRW := Lib.hid h.fix.lt
  have hA := h.alloc (Obj.cells #[.int .i64 0, .int .i64 0, .string ⟨#[]⟩, .int .i64 0, .slice none 0 0] 25)
  have hB := (Butt.refl R w).alloc h.fix.lt (Obj.cells #[.int .i64 0, .int .i64 0, .string ⟨#[]⟩, .int .i64 0, .slice none 0 0] 25)
  have hX := Bx5.new w (.int .i64 0) (.int .i64 0) (.string ⟨#[]⟩) (.int .i64 0) (.slice none 0 0)
  have hpR : w.heap.size ≠ R := fun e => absurd h.fix.lt (by rw [e]; exact Nat.lt_irrefl _)
  have hls : w.heap.size < (w.alloc (Obj.cells #[.int .i64 0, .int .i64 0, .string ⟨#[]⟩, .int .i64 0, .slice none 0 0] 25)).heap.size := by simp
  have A0 := Lib.hid hA; have B0 := Lib.hid hB; have XR0 := Lib.hid hX; have HPR := Lib.hid hpR; have HLS := Lib.hid hls
  clear hA hB hX hpR hls h CE CN CL hfi f1 f2 f3 h1 h2 h3 hs1
  go_enter Tryz.func58, Tryz.ntmps58
  go_wp2_with (go_at_call 55; refine (KE.out _ A0.out).mono ?_; rintro e w1 ⟨rfl, ha1, hb1⟩; refine Hid.out ?_)
  have A1 := Lib.hid ha1; have B1 := Lib.hid (B0.out.trans hb1)
  have XR1 := Lib.hid (XR0.out.butt HPR.out hb1)
  clear ha1 hb1
  refine Lib.hid ?_
  have A1a := Lib.hid (A1.out.alloc (Obj.cells #[.int .i64 ek, .string et, .int .i64 ea] 47)); have B1a := Lib.hid (B1.out.alloc HRW.out (Obj.cells #[.int .i64 ek, .string et, .int .i64 ea] 47))
  have XR1a := Lib.hid (XR1.out.alloc (Obj.cells #[.int .i64 ek, .string et, .int .i64 ea] 47))
  have PTT : Hid (w1.heap.size ≠ R) := Lib.hid (fun e => absurd (A1.out.fix.lt) (by rw [e]; exact Nat.lt_irrefl _))
  have TT1a := Lib.hid (Bx3.new w1 (.int .i64 ek) (.string et) (.int .i64 ea))
  go_wp2_with (go_at_call 85; refine (KN.out _ A1a.out).mono ?_; rintro e w2 ⟨rfl, ha2, hb2⟩; refine Hid.out ?_)
  have A2 := Lib.hid ha2; have B2 := Lib.hid (B1a.out.trans hb2)
  have XR2 := Lib.hid (XR1a.out.butt HPR.out hb2)
  have TT2 := Lib.hid (TT1a.out.butt PTT.out hb2)
  clear ha2 hb2
  refine Lib.hid ?_
  have A2a1 := Lib.hid (A2.out.alloc (Obj.cells #[.int .i64 uk, .string ut, .int .i64 ua] 47)); have B2a1 := Lib.hid (B2.out.alloc HRW.out (Obj.cells #[.int .i64 uk, .string ut, .int .i64 ua] 47))
  have XR2a1 := Lib.hid (XR2.out.alloc (Obj.cells #[.int .i64 uk, .string ut, .int .i64 ua] 47))
  have TT2a1 := Lib.hid (TT2.out.alloc (Obj.cells #[.int .i64 uk, .string ut, .int .i64 ua] 47))
  have PTU : Hid (w2.heap.size ≠ R) := Lib.hid (fun e => absurd (A2.out.fix.lt) (by rw [e]; exact Nat.lt_irrefl _))
  have TU2a1 := Lib.hid (Bx3.new w2 (.int .i64 uk) (.string ut) (.int .i64 ua))
  go_wp2_with (go_at_call 55; refine (sexpect A2a1.out ⟨#[123]⟩).mono ?_; rintro e w3 ⟨rfl, ha3, hb3⟩; refine Hid.out ?_)
  have A3 := Lib.hid ha3; have B3 := Lib.hid (B2a1.out.trans hb3)
  have XR3 := Lib.hid (XR2a1.out.butt HPR.out hb3)
  have TT3 := Lib.hid (TT2a1.out.butt PTT.out hb3)
  have TU3 := Lib.hid (TU2a1.out.butt PTU.out hb3)
  clear ha3 hb3
  refine Lib.hid ?_
  go_wp2_with (go_at_call 96; refine (KL.out _ A3.out).mono ?_; rintro e w4 ⟨x4, v4, s4, rfl, hx4, hn4, hs4, ha4, hb4⟩; refine Hid.out ?_)
  obtain ⟨o4, c4, rfl⟩ := hx4.slice
  have RW4 := Lib.hid (ownT.kidsIn (ps := [w.heap.size]) hx4 (Nat.le_trans (Nat.le_refl _) B3.out.size) (fun p hp => by simp only [List.mem_cons, List.not_mem_nil, or_false] at hp; have g0 := XR3.out.lt; omega))
  have HS4 := Lib.hid hs4; have HN4 := Lib.hid hn4
  have A4 := Lib.hid ha4; have B4 := Lib.hid (B3.out.trans hb4)
  have XR4 := Lib.hid (XR3.out.butt HPR.out hb4)
  have TT4 := Lib.hid (TT3.out.butt PTT.out hb4)
  have TU4 := Lib.hid (TU3.out.butt PTU.out hb4)
  clear ha4 hb4 hx4 hs4 hn4
  refine Lib.hid ?_
  go_wp2_with (go_at_call 55; refine (sexpect A4.out ⟨#[125]⟩).mono ?_; rintro e w5 ⟨rfl, ha5, hb5⟩; refine Hid.out ?_)
  have A5 := Lib.hid ha5; have B5 := Lib.hid (B4.out.trans hb5)
  have XR5 := Lib.hid (XR4.out.butt HPR.out hb5)
  have TT5 := Lib.hid (TT4.out.butt PTT.out hb5)
  have TU5 := Lib.hid (TU4.out.butt PTU.out hb5)
  have RW45 := Lib.hid (RW4.out.butt HLT.out hb5)
  clear ha5 hb5
  refine Lib.hid ?_
  have zTT := TT5.out
  have yTT0 := zTT.c0
  have yTT1 := zTT.c1
  have yTT2 := zTT.c2
  clear zTT
  have zTU := TU5.out
  have yTU0 := zTU.c0
  have yTU1 := zTU.c1
  have yTU2 := zTU.c2
  clear zTU
  go_wp2_with (go_at_call 59; refine (pnode_any _ _ _ _ _ _ _).mono ?_; rintro e w6 ⟨rfl, hb6⟩; refine Hid.out ?_)
  have hbx := Butt.of_below (R := R) A5.out.fix.lt hb6
  have ha6 : At R L w6 _ _ := ⟨A5.out.fix.butt hbx, A5.out.rs.below hb6⟩
  have TN := Lib.hid (synIn_mk.mpr ⟨_, rfl, RW45.out.below hb6⟩ : synIn (offs w.heap.size [w.heap.size]) w6 (.mk 1 ea ut 0 x4) _)
  have hb6 := hbx; clear hbx
  have A6 := Lib.hid ha6; have B6 := Lib.hid (B5.out.trans hb6)
  have XR6 := Lib.hid (XR5.out.butt HPR.out hb6)
  have TT6 := Lib.hid (TT5.out.butt PTT.out hb6)
  have TU6 := Lib.hid (TU5.out.butt PTU.out hb6)
  clear ha6 hb6
  refine Lib.hid ?_
  have FT := Lib.hid (store5 HA0.out B6.out A6.out XR6.out (Nat.le_refl _) (.int .i64 1) (.int .i64 ea) (.string ut) (.int .i64 0) (.slice o4 x4.length c4) _ rfl)
  have GX := Lib.hid ((TN.out).kept (by simp) FT.out.2.2.2).at
  have zXR := XR6.out
  have yXR0 := zXR.c0
  have yXR1 := zXR.c1
  have yXR2 := zXR.c2
  have yXR3 := zXR.c3
  have yXR4 := zXR.c4
  have fXR0 := zXR.free 0
  have fXR1 := zXR.free 1
  have fXR2 := zXR.free 2
  have fXR3 := zXR.free 3
  have fXR4 := zXR.free 4
  clear zXR
  obtain ⟨r0, r1, r2, r3, r4⟩ := FT.out.1
  have GA := Lib.hid FT.out.2.1; have GB := Lib.hid FT.out.2.2.1
  clear FT
  go_wp2
  refine bodyPost_ret (by simp [results, Tryz.results58, go_sem, r0, r1, r2, r3, r4]; rfl) rfl ?_
  exact ⟨_, _, _, rfl, GX.out, HM.out _ _ HS4.out, GA.out, GB.out⟩
end Go.Proofs.YtdibcllakkjegaaGreatDoor
