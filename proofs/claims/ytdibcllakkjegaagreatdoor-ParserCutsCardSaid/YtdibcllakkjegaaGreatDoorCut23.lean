import Derived.Test.YtdibcllakkjegaaGreatDoorCut22

set_option linter.unusedVariables false
/-
  parser: body.
-/
set_option linter.unusedSimpArgs false
set_option linter.unusedVariables false
namespace Go.Proofs.YtdibcllakkjegaaGreatDoor
open Go Go.Proofs Go.RowKit Go.Sort
theorem flatIn.cell1 {A : Nat → Prop} {W : World} : ∀ (l : List Syn) (cs : List Value), flatIn A W l cs → ∀ u ∈ cs, u.oneCell' = true
  | [], cs, h, u, hu => by rw [show cs = [] from h] at hu; cases hu
  | x :: r, cs, ⟨v0, v1, v2, v3, v4, cs', e, hx, hr⟩, u, hu => by
    obtain ⟨k, a, t, n, ao, l, c, ks, -, e2⟩ := hx.shape
    cases e2
    rw [e] at hu
    rcases List.mem_append.mp hu with h | h
    · simp at h
      rcases h with rfl | rfl | rfl | rfl | rfl <;> rfl
    · exact flatIn.cell1 r cs' hr u h
theorem wpList_append_kids {ops : Array Oper} {rest : List Oper} {o : Oper} {a : Act} {W : World} {Q : Exit → Act → World → Prop}
    (hg : o.guard = none) (s x : Operand) (hop : o.op = Op.call { callee := Callee.builtin Builtin.append, args := #[s, x], argTypes := #[23, 23] })
    (lo l2 : Nat) (v u : Value) (xs ys : List Syn) (hs : a.eval s = v) (hown : ownT lo W xs v) (hl : xs.length ≤ 500000) (hl2 : ys.length ≤ 500000) (hbase : lo ≤ W.heap.size)
    (hx : a.eval x = u) (hy : ownT l2 W ys u) (hlo : lo ≤ l2) (hoff : ∀ b, v.ownBlock = some b → b < l2)
    (hK : ∀ (v' : Value) (ao : Option Addr) (cap : Nat) (w9 : World), v' = .slice ao (xs.length + ys.length) cap → ownT lo w9 (xs ++ ys) v' → W.grownBy w9 v.ownBlock → wpList Tryz.prog ops Q rest (a.put o.dst v') w9) :
    wpList Tryz.prog ops Q (o :: rest) a W := by
  obtain ⟨i0, hi, hz0, hz1, hz2⟩ := info_parts infoSyn
  obtain ⟨cs, hrow, hflat⟩ := hown
  obtain ⟨ds, hrow2, hflat2⟩ := hy
  have hown2 : ∀ b, v.ownBlock = some b → lo ≤ b ∧ b < W.heap.size := ownT.lo ⟨cs, hrow, hflat⟩
  have hflat3 : flatIn (offRow lo v) W ys ds := flatIn.keep ⟨Nat.le_refl _, fun _ _ _ => rfl⟩ (fun k hk _ => ⟨Nat.le_trans hlo hk.1, fun e => by have := hoff k e; have := hk.1; omega⟩) _ _ hflat2
  have hdl := flatIn.len _ _ hflat2
  by_cases h0 : ys.length = 0
  · have hys : ys = [] := List.eq_nil_of_length_eq_zero h0
    subst hys
    have hds : ds = [] := hflat2
    obtain ⟨ao, sc, hv⟩ := ownT.slice ⟨cs, hrow, hflat⟩
    have hcap : xs.length ≤ sc := by
      rcases hrow.2 with ⟨e, hn⟩ | ⟨g, cap, cur, e, -, -, hn, -⟩
      · rw [hv] at e; injection e with _ e1 e2; omega
      · rw [hv] at e; injection e with _ e1 e2; omega
    obtain ⟨bo, uc, hu⟩ := ownT.slice ⟨ds, hrow2, hflat2⟩
    have hsrc : Src Tryz.prog i0.size 23 u 0 [] W := by
      rw [hu]
      cases bo with
      | none => exact Src.ofNil W Tryz.underlying23 _
      | some ad => exact Src.ofSlice W Tryz.underlying23 ad 0 _ [] (by simp) (fun j u h => by simp at h) (fun u h => by cases h)
    have hrun := run_append_nothing (P := Tryz.prog) W 23 23 o.type 25 i0 Tryz.underlying23 hi ao xs.length sc hcap u hsrc
    refine wpList_plain hg fun K hK' => ?_
    unfold Oper.wp
    simp [execOp, hop, resolve, invoke, builtin, hs, hx, hv, hrun, Result.andThen]
    refine hK' _ _ (hK _ ao sc W rfl ?_ ⟨rfl, rfl, rfl, Nat.le_refl _, fun _ _ _ => rfl⟩)
    rw [List.append_nil, ← hv]
    exact ⟨cs, hrow, hflat⟩
  · rcases hrow2.2 with ⟨-, hn⟩ | ⟨g2, cap2, cur2, hu, -, hg2, hn2, hm2, hsz2, htk⟩
    · exact absurd hn h0
    · refine wpList_append_lies W hg s x 23 hop lo 25 i0 _ 5 64 Tryz.underlying23 hi hz0 hz1 hz2 rfl (by decide) v xs.length cs hs hrow ⟨g2, 0, none⟩ ys.length cap2 ds (by rw [hx]; exact hu) hdl ?_ (flatIn.cell1 _ _ hflat2) (by omega) (by unfold maxLen; omega) (by omega) hbase _ rfl ?_
      · intro j u hj
        have hjl : j < ys.length * 5 := by
          have := (List.getElem?_eq_some_iff.1 hj).1
          omega
        rw [tk_addr, ← htk, List.getElem?_take_of_lt hjl] at *
        simp only [World.cell?, hg2]
        rw [← Array.getElem?_toList]
        simpa using hj
      · intro g cap w9 hown9 hgrow hgg hg9
        have hkept : Kept (offRow lo v) W w9 := ⟨hgrow.size, fun k hk h => hgrow.block k h (fun e => hk.2 e.symm)⟩
        have hset : ∀ k, offRow lo v k → k < W.heap.size → offRow lo (.slice (some ⟨g, 0, none⟩) (xs.length + ys.length) cap) k := fun k hk h => ⟨hk.1, fun e => by
          have e2 : g = k := by cases e; rfl
          rcases hgg with h2 | h2
          · exact hk.2 (by rw [h2, e2])
          · omega⟩
        refine hK _ _ _ w9 rfl ⟨cs ++ ds, ?_, ?_⟩ hgrow
        · rw [List.length_append]; exact hown9
        · exact flatIn.app (flatIn.keep hkept hset ys ds hflat3) xs cs (flatIn.keep hkept hset xs cs hflat)
theorem run_body {L : List Tk} {st s1 s2 : RSt} {d : Nat} {xs ys : List Syn} (hf : st.fine) (h1 : Stp .decls (d + 1) (enterS L st d (tIs L st ⟨#[123]⟩)) xs s1) (h2 : Stp .stmts (d + 1) s1 ys s2) :
    Stp .body d st [.mk 6 (tokM L st (tIs L st ⟨#[123]⟩)).a ⟨#[]⟩ 0 (xs ++ ys)] (needS (tIs L s2 ⟨#[125]⟩) s2) := by
  have f1 := Run.fine (run_enter (L := L) (d := d) hf [123]) hf
  have f2 := Run.fine h1 f1
  have f3 := Run.fine h2 f2
  exact st_body (Run.bind (run_enter (L := L) hf [123]) (Run.bind h1 (Run.bind h2 (Run.bind (run_need (L := L) f3 [125]) (run_ret (needS_fine f3))))))
set_option maxRecDepth 20000 in
set_option maxHeartbeats 4000000 in
theorem pbody {R : Nat} {L : List Tk} {d : Nat} {st : RSt} {w : World} (h : At R L w d st) (hd : d ≤ 999999) (hN : NumL L) (K : ∀ s : RSt, s.rem ≤ (enterS L st d (tIs L st ⟨#[123]⟩)).rem → GL 116 R L #[.pointer (some ⟨R, 0, none⟩)] .stmts (d + 1) s) :
    Calls Tryz.prog 89 #[.pointer (some ⟨R, 0, none⟩)] w (PT R L .body d st w) := by
  have hfi := h.fine
  have HRA := Lib.hid h.rem
  have CE := fun W (H : At R L W d st) => senter H hd ⟨#[123]⟩
  have HM := Lib.hid (fun xs ys s1 s2 => run_body (L := L) (d := d) (xs := xs) (ys := ys) (s1 := s1) (s2 := s2) hfi)
  have hre : (enterS L st d (tIs L st ⟨#[123]⟩)).rem ≤ st.rem := Run.rem (run_enter (L := L) (d := d) hfi [123])
  generalize tokM L st (tIs L st ⟨#[123]⟩) = T at *
  obtain ⟨ek, et, ea⟩ := T
  unfold tkA at *
  dsimp only at *
  generalize enterS L st d _ = s0 at *
  have KE := Lib.hid CE; have KK := Lib.hid K; have HD := Lib.hid hd; have HNL := Lib.hid hN; have HRE := Lib.hid hre
  have HA0 := Lib.hid h
  have HLT := Lib.hid h.fix.lt; have HRW := Lib.hid h.fix.lt
  have hA := h.alloc (Obj.cells #[.int .i64 0, .int .i64 0, .string ⟨#[]⟩, .int .i64 0, .slice none 0 0] 25)
  have hB := (Butt.refl R w).alloc h.fix.lt (Obj.cells #[.int .i64 0, .int .i64 0, .string ⟨#[]⟩, .int .i64 0, .slice none 0 0] 25)
  have hX := Bx5.new w (.int .i64 0) (.int .i64 0) (.string ⟨#[]⟩) (.int .i64 0) (.slice none 0 0)
  have hpR : w.heap.size ≠ R := fun e => absurd h.fix.lt (by rw [e]; exact Nat.lt_irrefl _)
  have hls : w.heap.size < (w.alloc (Obj.cells #[.int .i64 0, .int .i64 0, .string ⟨#[]⟩, .int .i64 0, .slice none 0 0] 25)).heap.size := by simp
  have A0 := Lib.hid hA; have B0 := Lib.hid hB; have XR0 := Lib.hid hX; have HPR := Lib.hid hpR; have HLS := Lib.hid hls
  clear hA hB hX hpR hls h CE K hd hN hfi hre
  go_enter Tryz.func89, Tryz.ntmps89
  go_wp2_with (go_at_call 114; refine (KE.out _ A0.out).mono ?_; rintro e w1 ⟨rfl, ha1, hb1⟩; refine Hid.out ?_)
  have A1 := Lib.hid ha1; have B1 := Lib.hid (B0.out.trans hb1)
  have XR1 := Lib.hid (XR0.out.butt HPR.out hb1)
  clear ha1 hb1
  refine Lib.hid ?_
  have A1a := Lib.hid (A1.out.alloc (Obj.cells #[.int .i64 ek, .string et, .int .i64 ea] 47)); have B1a := Lib.hid (B1.out.alloc HRW.out (Obj.cells #[.int .i64 ek, .string et, .int .i64 ea] 47))
  have XR1a := Lib.hid (XR1.out.alloc (Obj.cells #[.int .i64 ek, .string et, .int .i64 ea] 47))
  have PTT : Hid (w1.heap.size ≠ R) := Lib.hid (fun e => absurd (A1.out.fix.lt) (by rw [e]; exact Nat.lt_irrefl _))
  have TT1a := Lib.hid (Bx3.new w1 (.int .i64 ek) (.string et) (.int .i64 ea))
  go_wp2_with (go_at_call 115; refine (pdeclarations A1a.out HNL.out).mono ?_; rintro e w2 ⟨x2, v2, s2, rfl, hx2, hn2, hs2, ha2, hb2⟩; refine Hid.out ?_)
  obtain ⟨o2, c2, rfl⟩ := hx2.slice
  have RW2 := Lib.hid (ownT.kidsIn (l2 := w.heap.size) (ps := [w.heap.size]) hx2 (Nat.le_trans (Nat.le_refl _) B1a.out.size) (fun p hp => by simp only [List.mem_cons, List.not_mem_nil, or_false] at hp; have g0 := XR1a.out.lt; omega))
  have OX2 := Lib.hid hx2
  have HS2 := Lib.hid hs2; have HN2 := Lib.hid hn2
  have A2 := Lib.hid ha2; have B2 := Lib.hid (B1a.out.trans hb2)
  have XR2 := Lib.hid (XR1a.out.butt HPR.out hb2)
  have TT2 := Lib.hid (TT1a.out.butt PTT.out hb2)
  clear ha2 hb2 hx2 hs2 hn2
  refine Lib.hid ?_
  have HLO2 : Hid (w.heap.size + 1 ≤ w1.heap.size + 1) := Lib.hid (by have := XR1.out.lt; omega)
  have OA := Lib.hid (OX2.out.keep (l2 := w1.heap.size + 1) (by simp) (From.refl _ _))
  have HLT3 : Hid (R < w1.heap.size + 1) := Lib.hid (by have := A1.out.fix.lt; omega)
  have HSR := Lib.hid (Run.rem HS2.out)
  go_wp2_with (go_at_call 116; refine (KK.out _ HSR.out _ A2.out).mono ?_; rintro e w3 ⟨x3, v3, s3, rfl, hx3, hn3, hs3, ha3, hb3⟩; refine Hid.out ?_)
  obtain ⟨o3, c3, rfl⟩ := hx3.slice
  have RW3 := Lib.hid (ownT.kidsIn (l2 := w.heap.size) (ps := [w.heap.size]) hx3 (Nat.le_trans (Nat.le_refl _) B2.out.size) (fun p hp => by simp only [List.mem_cons, List.not_mem_nil, or_false] at hp; have g0 := XR2.out.lt; omega))
  have OX3 := Lib.hid hx3
  have HS3 := Lib.hid hs3; have HN3 := Lib.hid hn3
  have A3 := Lib.hid ha3; have B3 := Lib.hid (B2.out.trans hb3)
  have XR3 := Lib.hid (XR2.out.butt HPR.out hb3)
  have TT3 := Lib.hid (TT2.out.butt PTT.out hb3)
  have OA3 := Lib.hid (OA.out.keep (Nat.le_refl _) (hb3.froms HLT3.out))
  clear ha3 hb3 hx3 hs3 hn3
  refine Lib.hid ?_
  have HB1 : Hid (w1.heap.size + 1 ≤ w3.heap.size) := Lib.hid TT3.out.lt
  have HOF := Lib.hid (fun b e => (OA.out.lo b e).2)
  have HX1 : Hid (x2.length ≤ 500000) := Lib.hid (by have := HN2.out; have := HRE.out; have := HRA.out; omega)
  have HX2 : Hid (x3.length ≤ 500000) := Lib.hid (by have := HN3.out; have := HSR.out; have := HRE.out; have := HRA.out; omega)
  have HLL : Hid (w1.heap.size + 1 ≤ w2.heap.size) := Lib.hid TT2.out.lt
  go_wp2_with (first | (at_builtin; refine wpList_append_kids rfl (.tmp 8) (.tmp 10) rfl (w1.heap.size + 1) w2.heap.size _ _ x2 x3 (by simp [Act.eval, Act.put]) OA3.out HX1.out HX2.out HB1.out (by simp [Act.eval, Act.put]) OX3.out HLL.out HOF.out ?_; intro v9 ao9 cap9 w9 hv9 ho9 hg9; refine Hid.out ?_) | fail)
  subst hv9
  have hgl := grownBy_froms hg9 (fun b e => (OA3.out.lo b e).1) HLT3.out HB1.out
  have hgr := At.grow HA0.out A3.out B3.out (Below.down hgl (Nat.le_succ_of_le B1.out.size))
  have A9 := Lib.hid hgr.1; have B9 := Lib.hid hgr.2; have O9 := Lib.hid ho9
  have XR9 := Lib.hid (XR3.out.down hgl (by have := XR1.out.lt; omega))
  have TT9 := Lib.hid (TT3.out.down hgl (Nat.lt_succ_self _))
  clear hgl hgr ho9 hg9
  refine Lib.hid ?_
  have KR := Lib.hid (ownT.kidsIn (l2 := w.heap.size) (ps := [w.heap.size]) O9.out (Nat.le_succ_of_le B1.out.size) (by have := XR1.out.lt; simp; omega))
  go_wp2_with (go_at_call 55; refine (sexpect A9.out ⟨#[125]⟩).mono ?_; rintro e w10 ⟨rfl, ha10, hb10⟩; refine Hid.out ?_)
  have A10 := Lib.hid ha10; have B10 := Lib.hid (B9.out.trans hb10)
  have XR10 := Lib.hid (XR9.out.butt HPR.out hb10)
  have TT10 := Lib.hid (TT9.out.butt PTT.out hb10)
  have KR10 := Lib.hid (KR.out.butt HLT.out hb10)
  clear ha10 hb10
  refine Lib.hid ?_
  go_wp2_with (go_at_call 117; refine (sleave A10.out HD.out).mono ?_; rintro e w11 ⟨rfl, ha11, hb11⟩; refine Hid.out ?_)
  have A11 := Lib.hid ha11; have B11 := Lib.hid (B10.out.trans hb11)
  have XR11 := Lib.hid (XR10.out.butt HPR.out hb11)
  have TT11 := Lib.hid (TT10.out.butt PTT.out hb11)
  have KR11 := Lib.hid (KR10.out.butt HLT.out hb11)
  clear ha11 hb11
  refine Lib.hid ?_
  have zTT := TT11.out
  have yTT0 := zTT.c0
  have yTT1 := zTT.c1
  have yTT2 := zTT.c2
  clear zTT
  go_wp2_with (go_at_call 59; refine (pnode_any _ _ _ _ _ _ _).mono ?_; rintro e w12 ⟨rfl, hb12⟩; refine Hid.out ?_)
  have HBZ := Lib.hid hb12
  have hbx := Butt.of_below (R := R) A11.out.fix.lt hb12
  have ha12 : At R L w12 _ _ := ⟨A11.out.fix.butt hbx, A11.out.rs.below hb12⟩
  have TN := Lib.hid (synIn_mk.mpr ⟨_, rfl, KR11.out.keep ⟨HBZ.out.size, fun k _ h => HBZ.out.block k h⟩ (fun _ h _ => h)⟩ : synIn (offs w.heap.size [w.heap.size]) w12 (.mk 6 ea ⟨#[]⟩ 0 (x2 ++ x3)) _)
  have hb12 := hbx; clear hbx
  have A12 := Lib.hid ha12; have B12 := Lib.hid (B11.out.trans hb12)
  have XR12 := Lib.hid (XR11.out.butt HPR.out hb12)
  have TT12 := Lib.hid (TT11.out.butt PTT.out hb12)
  clear ha12 hb12
  refine Lib.hid ?_
  have FT := Lib.hid (store5 HA0.out B12.out A12.out XR12.out (Nat.le_refl _) (.int .i64 6) (.int .i64 ea) (.string ⟨#[]⟩) (.int .i64 0) (.slice ao9 (x2.length + x3.length) cap9) _ rfl)
  have GX := Lib.hid ((TN.out).kept (by simp) FT.out.2.2.2).at
  have zXR := XR12.out
  have yXR0 := zXR.c0
  have yXR1 := zXR.c1
  have yXR2 := zXR.c2
  have yXR3 := zXR.c3
  have yXR4 := zXR.c4
  have fXR0 := zXR.free 0
  have fXR1 := zXR.free 1
  have fXR2 := zXR.free 2
  have fXR3 := zXR.free 3
  have fXR4 := zXR.free 4
  clear zXR
  obtain ⟨r0, r1, r2, r3, r4⟩ := FT.out.1
  have GA := Lib.hid FT.out.2.1; have GB := Lib.hid FT.out.2.2.1
  clear FT
  go_wp2
  refine bodyPost_ret (by simp [results, Tryz.results89, go_sem, r0, r1, r2, r3, r4]; rfl) rfl ?_
  exact ⟨_, _, _, rfl, GX.out, HM.out _ _ _ _ HS2.out HS3.out, GA.out, GB.out⟩
theorem run_proc {L : List Tk} {st s0 s1 s2 s3 s4 s5 s6 s7 : RSt} {d : Nat} {t : Tk} {k1 k2 k3 k4 : Syn} {xs : List Syn} (b : Bool) (hf : st.fine) (hb : tIs L st ⟨#[105, 109, 112, 111, 114, 116]⟩ = b) (h0 : s0 = if b = true then takeS st else st)
    (h1 : s1 = needS (tIs L s0 ⟨#[112, 114, 111, 99]⟩) s0) (h2 : Run mName s1 t s2) (h3 : Run (mParams d) s2 k1 s3) (h4 : Run (mResults d) s3 k2 s4) (h5 : Run (mWhen wRequires d) s4 k3 s5) (h6 : Run (mWhen wEnsures d) s5 k4 s6)
    (h7 : (b = true ∧ xs = [k1, k2, k3, k4] ∧ s7 = needS (tIs L s6 ⟨#[59]⟩) s6) ∨ (b = false ∧ ∃ y, xs = [k1, k2, k3, k4] ++ [y] ∧ Stp .body d s6 [y] s7)) : Stp .proc d st [.mk 2 (cur L st).a t.t 0 xs] s7 := by
  have f0 : s0.fine := by rw [h0]; cases b with | true => exact RSt.takeS_fine hf | false => exact hf
  have f1 : s1.fine := by rw [h1]; exact needS_fine f0
  have f2 := Run.fine h2 f1
  have f3 := Run.fine h3 f2
  have f4 := Run.fine h4 f3
  have f5 := Run.fine h5 f4
  have f6 := Run.fine h6 f5
  have his := run_is (L := L) hf wImport
  rw [show tIs L st ⟨wImport.toArray⟩ = b from hb] at his
  have hne := run_need (L := L) f0 wProc
  rw [show needS (tIs L s0 ⟨wProc.toArray⟩) s0 = s1 from h1.symm] at hne
  have hx : Run (if b = true then mTake else mPeek) st (cur L st) s0 := by
    rw [h0]
    cases b with
    | true => exact run_take hf
    | false => exact run_peek hf
  refine st_proc (Run.bind (run_peek (L := L) hf) (Run.bind his (Run.bind hx (Run.bind hne (Run.bind h2 (Run.bind h3 (Run.bind h4 (Run.bind h5 (Run.bind h6 ?_)))))))))
  rcases h7 with ⟨e, rfl, rfl⟩ | ⟨e, y, rfl, h7⟩
  · exact Run.ite (fun _ => Run.bind (run_need (L := L) f6 [59]) (run_ret (needS_fine f6))) (fun g => absurd e g)
  · exact Run.ite (fun g => absurd (e.symm.trans g) (by decide)) (fun _ => Run.bind h7 (run_ret (Run.fine h7 f6)))
set_option maxRecDepth 20000 in
set_option maxHeartbeats 4000000 in
theorem pprocedure {R : Nat} {L : List Tk} {d : Nat} {st : RSt} {w : World} (h : At R L w d st) (K : ∀ s : RSt, s.rem ≤ st.rem → GT 41 R L #[.pointer (some ⟨R, 0, none⟩)] (.lvl 0) d s) (KB : ∀ s : RSt, s.rem ≤ st.rem → GT 89 R L #[.pointer (some ⟨R, 0, none⟩)] .body d s) :
    Calls Tryz.prog 47 #[.pointer (some ⟨R, 0, none⟩)] w (PT R L .proc d st w) := by
  have hfi := h.fine
  have CH := fun W (H : At R L W d st) => shere H
  have CA := fun W (H : At R L W d st) => saccept H ⟨#[105, 109, 112, 111, 114, 116]⟩
  have HM := Lib.hid (fun s0 s1 s2 s3 s4 s5 s6 s7 t k1 k2 k3 k4 xs b => run_proc (L := L) (s0 := s0) (s1 := s1) (s2 := s2) (s3 := s3) (s4 := s4) (s5 := s5) (s6 := s6) (s7 := s7) (d := d) (t := t) (k1 := k1) (k2 := k2) (k3 := k3) (k4 := k4) (xs := xs) b hfi)
  have hr0 : (if tIs L st ⟨#[105, 109, 112, 111, 114, 116]⟩ = true then takeS st else st).rem ≤ st.rem := by split; exact takeS_rem st; exact Nat.le_refl _
  have hf0 : (if tIs L st ⟨#[105, 109, 112, 111, 114, 116]⟩ = true then takeS st else st).fine := by split; exact RSt.takeS_fine hfi; exact hfi
  generalize hs0 : (if tIs L st ⟨#[105, 109, 112, 111, 114, 116]⟩ = true then takeS st else st) = s0 at *
  have CN := fun W (H : At R L W d (needS (tIs L s0 ⟨#[112, 114, 111, 99]⟩) s0)) => sname H
  have hr1 : (needS (tIs L s0 ⟨#[112, 114, 111, 99]⟩) s0).rem ≤ st.rem := Nat.le_trans needS_rem hr0
  have hf1 := needS_fine (can := tIs L s0 ⟨#[112, 114, 111, 99]⟩) hf0
  generalize hs1 : needS (tIs L s0 ⟨#[112, 114, 111, 99]⟩) s0 = s1 at *
  have hnm := run_name (L := L) hf1
  have hr2 : (needS (isN (cur L s1)) s1).rem ≤ st.rem := Nat.le_trans needS_rem hr1
  generalize needS (isN (cur L s1)) s1 = s2 at *
  generalize tokM L s1 (isN (cur L s1)) = T at *
  obtain ⟨ek, et, ea⟩ := T
  generalize (cur L st).a = pa at *
  unfold tkA at *
  dsimp only at *
  cases hb : tIs L st ⟨#[105, 109, 112, 111, 114, 116]⟩ with
  | true =>
    rw [hb] at CA
    have HS0 := Lib.hid hs0; have HS1 := Lib.hid hs1; have HNM := Lib.hid hnm; have HBB := Lib.hid hb; have HR2 := Lib.hid hr2
    have KH := Lib.hid CH; have KA := Lib.hid CA; have KN := Lib.hid CN; have KK := Lib.hid K; have KKB := Lib.hid KB
    have HA0 := Lib.hid h
    have HLT := Lib.hid h.fix.lt; have HRW := Lib.hid h.fix.lt
    have hA := h.alloc (Obj.cells #[.int .i64 0, .int .i64 0, .string ⟨#[]⟩, .int .i64 0, .slice none 0 0] 25)
    have hB := (Butt.refl R w).alloc h.fix.lt (Obj.cells #[.int .i64 0, .int .i64 0, .string ⟨#[]⟩, .int .i64 0, .slice none 0 0] 25)
    have hX := Bx5.new w (.int .i64 0) (.int .i64 0) (.string ⟨#[]⟩) (.int .i64 0) (.slice none 0 0)
    have hpR : w.heap.size ≠ R := fun e => absurd h.fix.lt (by rw [e]; exact Nat.lt_irrefl _)
    have hls : w.heap.size < (w.alloc (Obj.cells #[.int .i64 0, .int .i64 0, .string ⟨#[]⟩, .int .i64 0, .slice none 0 0] 25)).heap.size := by simp
    have A0 := Lib.hid hA; have B0 := Lib.hid hB; have XR0 := Lib.hid hX; have HPR := Lib.hid hpR; have HLS := Lib.hid hls
    clear hA hB hX hpR hls h CH CA CN K KB hfi hr0 hr1 hr2 hf0 hf1 hs0 hs1 hnm hb
    go_enter Tryz.func47, Tryz.ntmps47
    go_wp2_with (go_at_call 56; refine (KH.out _ A0.out).mono ?_; rintro e w1 ⟨rfl, ha1, hb1⟩; refine Hid.out ?_)
    have A1 := Lib.hid ha1; have B1 := Lib.hid (B0.out.trans hb1)
    have XR1 := Lib.hid (XR0.out.butt HPR.out hb1)
    clear ha1 hb1
    refine Lib.hid ?_
    go_wp2_with (go_at_call 84; refine (KA.out _ A1.out).mono ?_; rintro e w2 ⟨rfl, ha2, hb2⟩; refine Hid.out ?_)
    have A2 := Lib.hid ha2; have B2 := Lib.hid (B1.out.trans hb2)
    have XR2 := Lib.hid (XR1.out.butt HPR.out hb2)
    clear ha2 hb2
    refine Lib.hid ?_
    go_wp2_with (go_at_call 55; refine (sexpect A2.out ⟨#[112, 114, 111, 99]⟩).mono ?_; rintro e w3 ⟨rfl, ha3, hb3⟩; refine Hid.out ?_)
    have A3 := Lib.hid ha3; have B3 := Lib.hid (B2.out.trans hb3)
    have XR3 := Lib.hid (XR2.out.butt HPR.out hb3)
    clear ha3 hb3
    refine Lib.hid ?_
    have A3r := Lib.hid ((HS1.out ▸ A3.out : At R L w3 d s1))
    go_wp2_with (go_at_call 85; refine (KN.out _ A3r.out).mono ?_; rintro e w4 ⟨rfl, ha4, hb4⟩; refine Hid.out ?_)
    have A4 := Lib.hid ha4; have B4 := Lib.hid (B3.out.trans hb4)
    have XR4 := Lib.hid (XR3.out.butt HPR.out hb4)
    clear ha4 hb4
    refine Lib.hid ?_
    have A4a := Lib.hid (A4.out.alloc (Obj.cells #[.int .i64 ek, .string et, .int .i64 ea] 47)); have B4a := Lib.hid (B4.out.alloc HRW.out (Obj.cells #[.int .i64 ek, .string et, .int .i64 ea] 47))
    have XR4a := Lib.hid (XR4.out.alloc (Obj.cells #[.int .i64 ek, .string et, .int .i64 ea] 47))
    have PTT : Hid (w4.heap.size ≠ R) := Lib.hid (fun e => absurd (A4.out.fix.lt) (by rw [e]; exact Nat.lt_irrefl _))
    have TT4a := Lib.hid (Bx3.new w4 (.int .i64 ek) (.string et) (.int .i64 ea))
    have HLT3 : Hid (R < w4.heap.size + 1) := Lib.hid (by have := A4.out.fix.lt; omega)
    go_wp2_with (go_at_call 86; refine (pparameters A4a.out).mono ?_; rintro e w5 ⟨x5, v5, s5, rfl, hx5, hs5, ha5, hb5⟩; refine Hid.out ?_)
    obtain ⟨k5, a5, t5, n5, o5, l5, c5, q5, rfl, rfl, hk5⟩ := hx5.shape
    have HS5 := Lib.hid hs5
    have TR5 := Lib.hid (synIn.of (l2 := (w4.heap.size + 1)) (ps := []) hx5 (by have := TT4a.out.lt; omega) (by simp))
    have A5 := Lib.hid ha5; have B5 := Lib.hid (B4a.out.trans hb5)
    have XR5 := Lib.hid (XR4a.out.butt HPR.out hb5)
    have TT5 := Lib.hid (TT4a.out.butt PTT.out hb5)
    clear ha5 hb5 hx5 hk5 hs5
    refine Lib.hid ?_
    have HR5 := Lib.hid (Nat.le_trans (Run.rem HS5.out) HR2.out)
    go_wp2_with (go_at_call 87; refine (presults A5.out).mono ?_; rintro e w6 ⟨x6, v6, s6, rfl, hx6, hs6, ha6, hb6⟩; refine Hid.out ?_)
    obtain ⟨k6, a6, t6, n6, o6, l6, c6, q6, rfl, rfl, hk6⟩ := hx6.shape
    have HS6 := Lib.hid hs6
    have TR6 := Lib.hid (synIn.of (l2 := (w4.heap.size + 1)) (ps := []) hx6 (by have := TT5.out.lt; omega) (by simp))
    have A6 := Lib.hid ha6; have B6 := Lib.hid (B5.out.trans hb6)
    have XR6 := Lib.hid (XR5.out.butt HPR.out hb6)
    have TT6 := Lib.hid (TT5.out.butt PTT.out hb6)
    have TR56 := Lib.hid (TR5.out.butt HLT3.out hb6)
    clear ha6 hb6 hx6 hk6 hs6
    refine Lib.hid ?_
    have HR6 := Lib.hid (Nat.le_trans (Run.rem HS6.out) HR5.out)
    go_wp2_with (go_at_call 88; refine (pwhen_requires A6.out (fun s hs => KK.out s (Nat.le_trans hs HR6.out))).mono ?_; rintro e w7 ⟨x7, v7, s7, rfl, hx7, hs7, ha7, hb7⟩; refine Hid.out ?_)
    obtain ⟨k7, a7, t7, n7, o7, l7, c7, q7, rfl, rfl, hk7⟩ := hx7.shape
    have HS7 := Lib.hid hs7
    have TR7 := Lib.hid (synIn.of (l2 := (w4.heap.size + 1)) (ps := []) hx7 (by have := TT6.out.lt; omega) (by simp))
    have A7 := Lib.hid ha7; have B7 := Lib.hid (B6.out.trans hb7)
    have XR7 := Lib.hid (XR6.out.butt HPR.out hb7)
    have TT7 := Lib.hid (TT6.out.butt PTT.out hb7)
    have TR57 := Lib.hid (TR56.out.butt HLT3.out hb7)
    have TR67 := Lib.hid (TR6.out.butt HLT3.out hb7)
    clear ha7 hb7 hx7 hk7 hs7
    refine Lib.hid ?_
    have HR7 := Lib.hid (Nat.le_trans (Run.rem HS7.out) HR6.out)
    go_wp2_with (go_at_call 88; refine (pwhen_ensures A7.out (fun s hs => KK.out s (Nat.le_trans hs HR7.out))).mono ?_; rintro e w8 ⟨x8, v8, s8, rfl, hx8, hs8, ha8, hb8⟩; refine Hid.out ?_)
    obtain ⟨k8, a8, t8, n8, o8, l8, c8, q8, rfl, rfl, hk8⟩ := hx8.shape
    have HS8 := Lib.hid hs8
    have TR8 := Lib.hid (synIn.of (l2 := (w4.heap.size + 1)) (ps := []) hx8 (by have := TT7.out.lt; omega) (by simp))
    have A8 := Lib.hid ha8; have B8 := Lib.hid (B7.out.trans hb8)
    have XR8 := Lib.hid (XR7.out.butt HPR.out hb8)
    have TT8 := Lib.hid (TT7.out.butt PTT.out hb8)
    have TR58 := Lib.hid (TR57.out.butt HLT3.out hb8)
    have TR68 := Lib.hid (TR67.out.butt HLT3.out hb8)
    have TR78 := Lib.hid (TR7.out.butt HLT3.out hb8)
    clear ha8 hb8 hx8 hk8 hs8
    refine Lib.hid ?_
    have HR8 := Lib.hid (Nat.le_trans (Run.rem HS8.out) HR7.out)
    have OW := Lib.hid (ownT.new (flatIn.cons TR58.out (flatIn.cons TR68.out (flatIn.cons TR78.out (flatIn.one TR8.out)))) (by have := TT8.out.lt; omega) 4 rfl (by decide))
    have A8a1 := Lib.hid (A8.out.alloc (Obj.cells #[.int .i64 k5, .int .i64 a5, .string t5, .int .i64 n5, .slice o5 l5 c5, .int .i64 k6, .int .i64 a6, .string t6, .int .i64 n6, .slice o6 l6 c6, .int .i64 k7, .int .i64 a7, .string t7, .int .i64 n7, .slice o7 l7 c7, .int .i64 k8, .int .i64 a8, .string t8, .int .i64 n8, .slice o8 l8 c8] 25)); have B8a1 := Lib.hid (B8.out.alloc HRW.out (Obj.cells #[.int .i64 k5, .int .i64 a5, .string t5, .int .i64 n5, .slice o5 l5 c5, .int .i64 k6, .int .i64 a6, .string t6, .int .i64 n6, .slice o6 l6 c6, .int .i64 k7, .int .i64 a7, .string t7, .int .i64 n7, .slice o7 l7 c7, .int .i64 k8, .int .i64 a8, .string t8, .int .i64 n8, .slice o8 l8 c8] 25))
    have XR8a1 := Lib.hid (XR8.out.alloc (Obj.cells #[.int .i64 k5, .int .i64 a5, .string t5, .int .i64 n5, .slice o5 l5 c5, .int .i64 k6, .int .i64 a6, .string t6, .int .i64 n6, .slice o6 l6 c6, .int .i64 k7, .int .i64 a7, .string t7, .int .i64 n7, .slice o7 l7 c7, .int .i64 k8, .int .i64 a8, .string t8, .int .i64 n8, .slice o8 l8 c8] 25))
    have TT8a1 := Lib.hid (TT8.out.alloc (Obj.cells #[.int .i64 k5, .int .i64 a5, .string t5, .int .i64 n5, .slice o5 l5 c5, .int .i64 k6, .int .i64 a6, .string t6, .int .i64 n6, .slice o6 l6 c6, .int .i64 k7, .int .i64 a7, .string t7, .int .i64 n7, .slice o7 l7 c7, .int .i64 k8, .int .i64 a8, .string t8, .int .i64 n8, .slice o8 l8 c8] 25))
    go_wp2_with (go_at_call 55; refine (sexpect A8a1.out ⟨#[59]⟩).mono ?_; rintro e w9 ⟨rfl, ha9, hb9⟩; refine Hid.out ?_)
    have A9 := Lib.hid ha9; have B9 := Lib.hid (B8a1.out.trans hb9)
    have XR9 := Lib.hid (XR8a1.out.butt HPR.out hb9)
    have TT9 := Lib.hid (TT8a1.out.butt PTT.out hb9)
    have OW9 := Lib.hid (OW.out.keep (Nat.le_refl _) (hb9.froms HLT3.out))
    clear ha9 hb9
    refine Lib.hid ?_
    have KR := Lib.hid (ownT.kidsIn (l2 := w.heap.size) (ps := [w.heap.size]) OW9.out (Nat.le_succ_of_le B4.out.size) (by have := XR4.out.lt; simp; omega))
    have zTT := TT9.out
    have yTT0 := zTT.c0
    have yTT1 := zTT.c1
    have yTT2 := zTT.c2
    clear zTT
    go_wp2_with (go_at_call 59; refine (pnode_any _ _ _ _ _ _ _).mono ?_; rintro e w10 ⟨rfl, hb10⟩; refine Hid.out ?_)
    have HBZ := Lib.hid hb10
    have hbx := Butt.of_below (R := R) A9.out.fix.lt hb10
    have ha10 : At R L w10 _ _ := ⟨A9.out.fix.butt hbx, A9.out.rs.below hb10⟩
    have TN := Lib.hid (synIn_mk.mpr ⟨_, rfl, KR.out.keep ⟨HBZ.out.size, fun k _ h => HBZ.out.block k h⟩ (fun _ h _ => h)⟩ : synIn (offs w.heap.size [w.heap.size]) w10 (.mk 2 pa et 0 [(.mk k5 a5 t5 n5 q5), (.mk k6 a6 t6 n6 q6), (.mk k7 a7 t7 n7 q7), (.mk k8 a8 t8 n8 q8)]) _)
    have hb10 := hbx; clear hbx
    have A10 := Lib.hid ha10; have B10 := Lib.hid (B9.out.trans hb10)
    have XR10 := Lib.hid (XR9.out.butt HPR.out hb10)
    have TT10 := Lib.hid (TT9.out.butt PTT.out hb10)
    clear ha10 hb10
    refine Lib.hid ?_
    have FT := Lib.hid (store5 HA0.out B10.out A10.out XR10.out (Nat.le_refl _) (.int .i64 2) (.int .i64 pa) (.string et) (.int .i64 0) (.slice (some ⟨w8.heap.size, 0, none⟩) 4 4) _ rfl)
    have GX := Lib.hid ((TN.out).kept (by simp) FT.out.2.2.2).at
    have zXR := XR10.out
    have yXR0 := zXR.c0
    have yXR1 := zXR.c1
    have yXR2 := zXR.c2
    have yXR3 := zXR.c3
    have yXR4 := zXR.c4
    have fXR0 := zXR.free 0
    have fXR1 := zXR.free 1
    have fXR2 := zXR.free 2
    have fXR3 := zXR.free 3
    have fXR4 := zXR.free 4
    clear zXR
    obtain ⟨r0, r1, r2, r3, r4⟩ := FT.out.1
    have GA := Lib.hid FT.out.2.1; have GB := Lib.hid FT.out.2.2.1
    clear FT
    go_wp2
    refine bodyPost_ret (by simp [results, Tryz.results47, go_sem, r0, r1, r2, r3, r4]; rfl) rfl ?_
    exact ⟨_, _, _, rfl, GX.out, HM.out s0 s1 s2 _ _ _ _ _ ⟨ek, et, ea⟩ _ _ _ _ _ true HBB.out (by rw [← HS0.out, HBB.out]) HS1.out.symm HNM.out HS5.out HS6.out HS7.out HS8.out (.inl ⟨rfl, rfl, rfl⟩), GA.out, GB.out⟩
  | false =>
    rw [hb] at CA
    have HS0 := Lib.hid hs0; have HS1 := Lib.hid hs1; have HNM := Lib.hid hnm; have HBB := Lib.hid hb; have HR2 := Lib.hid hr2
    have KH := Lib.hid CH; have KA := Lib.hid CA; have KN := Lib.hid CN; have KK := Lib.hid K; have KKB := Lib.hid KB
    have HA0 := Lib.hid h
    have HLT := Lib.hid h.fix.lt; have HRW := Lib.hid h.fix.lt
    have hA := h.alloc (Obj.cells #[.int .i64 0, .int .i64 0, .string ⟨#[]⟩, .int .i64 0, .slice none 0 0] 25)
    have hB := (Butt.refl R w).alloc h.fix.lt (Obj.cells #[.int .i64 0, .int .i64 0, .string ⟨#[]⟩, .int .i64 0, .slice none 0 0] 25)
    have hX := Bx5.new w (.int .i64 0) (.int .i64 0) (.string ⟨#[]⟩) (.int .i64 0) (.slice none 0 0)
    have hpR : w.heap.size ≠ R := fun e => absurd h.fix.lt (by rw [e]; exact Nat.lt_irrefl _)
    have hls : w.heap.size < (w.alloc (Obj.cells #[.int .i64 0, .int .i64 0, .string ⟨#[]⟩, .int .i64 0, .slice none 0 0] 25)).heap.size := by simp
    have A0 := Lib.hid hA; have B0 := Lib.hid hB; have XR0 := Lib.hid hX; have HPR := Lib.hid hpR; have HLS := Lib.hid hls
    clear hA hB hX hpR hls h CH CA CN K KB hfi hr0 hr1 hr2 hf0 hf1 hs0 hs1 hnm hb
    go_enter Tryz.func47, Tryz.ntmps47
    go_wp2_with (go_at_call 56; refine (KH.out _ A0.out).mono ?_; rintro e w1 ⟨rfl, ha1, hb1⟩; refine Hid.out ?_)
    have A1 := Lib.hid ha1; have B1 := Lib.hid (B0.out.trans hb1)
    have XR1 := Lib.hid (XR0.out.butt HPR.out hb1)
    clear ha1 hb1
    refine Lib.hid ?_
    go_wp2_with (go_at_call 84; refine (KA.out _ A1.out).mono ?_; rintro e w2 ⟨rfl, ha2, hb2⟩; refine Hid.out ?_)
    have A2 := Lib.hid ha2; have B2 := Lib.hid (B1.out.trans hb2)
    have XR2 := Lib.hid (XR1.out.butt HPR.out hb2)
    clear ha2 hb2
    refine Lib.hid ?_
    go_wp2_with (go_at_call 55; refine (sexpect A2.out ⟨#[112, 114, 111, 99]⟩).mono ?_; rintro e w3 ⟨rfl, ha3, hb3⟩; refine Hid.out ?_)
    have A3 := Lib.hid ha3; have B3 := Lib.hid (B2.out.trans hb3)
    have XR3 := Lib.hid (XR2.out.butt HPR.out hb3)
    clear ha3 hb3
    refine Lib.hid ?_
    have A3r := Lib.hid ((HS1.out ▸ A3.out : At R L w3 d s1))
    go_wp2_with (go_at_call 85; refine (KN.out _ A3r.out).mono ?_; rintro e w4 ⟨rfl, ha4, hb4⟩; refine Hid.out ?_)
    have A4 := Lib.hid ha4; have B4 := Lib.hid (B3.out.trans hb4)
    have XR4 := Lib.hid (XR3.out.butt HPR.out hb4)
    clear ha4 hb4
    refine Lib.hid ?_
    have A4a := Lib.hid (A4.out.alloc (Obj.cells #[.int .i64 ek, .string et, .int .i64 ea] 47)); have B4a := Lib.hid (B4.out.alloc HRW.out (Obj.cells #[.int .i64 ek, .string et, .int .i64 ea] 47))
    have XR4a := Lib.hid (XR4.out.alloc (Obj.cells #[.int .i64 ek, .string et, .int .i64 ea] 47))
    have PTT : Hid (w4.heap.size ≠ R) := Lib.hid (fun e => absurd (A4.out.fix.lt) (by rw [e]; exact Nat.lt_irrefl _))
    have TT4a := Lib.hid (Bx3.new w4 (.int .i64 ek) (.string et) (.int .i64 ea))
    have HLT3 : Hid (R < w4.heap.size + 1) := Lib.hid (by have := A4.out.fix.lt; omega)
    go_wp2_with (go_at_call 86; refine (pparameters A4a.out).mono ?_; rintro e w5 ⟨x5, v5, s5, rfl, hx5, hs5, ha5, hb5⟩; refine Hid.out ?_)
    obtain ⟨k5, a5, t5, n5, o5, l5, c5, q5, rfl, rfl, hk5⟩ := hx5.shape
    have HS5 := Lib.hid hs5
    have TR5 := Lib.hid (synIn.of (l2 := (w4.heap.size + 1)) (ps := []) hx5 (by have := TT4a.out.lt; omega) (by simp))
    have A5 := Lib.hid ha5; have B5 := Lib.hid (B4a.out.trans hb5)
    have XR5 := Lib.hid (XR4a.out.butt HPR.out hb5)
    have TT5 := Lib.hid (TT4a.out.butt PTT.out hb5)
    clear ha5 hb5 hx5 hk5 hs5
    refine Lib.hid ?_
    have HR5 := Lib.hid (Nat.le_trans (Run.rem HS5.out) HR2.out)
    go_wp2_with (go_at_call 87; refine (presults A5.out).mono ?_; rintro e w6 ⟨x6, v6, s6, rfl, hx6, hs6, ha6, hb6⟩; refine Hid.out ?_)
    obtain ⟨k6, a6, t6, n6, o6, l6, c6, q6, rfl, rfl, hk6⟩ := hx6.shape
    have HS6 := Lib.hid hs6
    have TR6 := Lib.hid (synIn.of (l2 := (w4.heap.size + 1)) (ps := []) hx6 (by have := TT5.out.lt; omega) (by simp))
    have A6 := Lib.hid ha6; have B6 := Lib.hid (B5.out.trans hb6)
    have XR6 := Lib.hid (XR5.out.butt HPR.out hb6)
    have TT6 := Lib.hid (TT5.out.butt PTT.out hb6)
    have TR56 := Lib.hid (TR5.out.butt HLT3.out hb6)
    clear ha6 hb6 hx6 hk6 hs6
    refine Lib.hid ?_
    have HR6 := Lib.hid (Nat.le_trans (Run.rem HS6.out) HR5.out)
    go_wp2_with (go_at_call 88; refine (pwhen_requires A6.out (fun s hs => KK.out s (Nat.le_trans hs HR6.out))).mono ?_; rintro e w7 ⟨x7, v7, s7, rfl, hx7, hs7, ha7, hb7⟩; refine Hid.out ?_)
    obtain ⟨k7, a7, t7, n7, o7, l7, c7, q7, rfl, rfl, hk7⟩ := hx7.shape
    have HS7 := Lib.hid hs7
    have TR7 := Lib.hid (synIn.of (l2 := (w4.heap.size + 1)) (ps := []) hx7 (by have := TT6.out.lt; omega) (by simp))
    have A7 := Lib.hid ha7; have B7 := Lib.hid (B6.out.trans hb7)
    have XR7 := Lib.hid (XR6.out.butt HPR.out hb7)
    have TT7 := Lib.hid (TT6.out.butt PTT.out hb7)
    have TR57 := Lib.hid (TR56.out.butt HLT3.out hb7)
    have TR67 := Lib.hid (TR6.out.butt HLT3.out hb7)
    clear ha7 hb7 hx7 hk7 hs7
    refine Lib.hid ?_
    have HR7 := Lib.hid (Nat.le_trans (Run.rem HS7.out) HR6.out)
    go_wp2_with (go_at_call 88; refine (pwhen_ensures A7.out (fun s hs => KK.out s (Nat.le_trans hs HR7.out))).mono ?_; rintro e w8 ⟨x8, v8, s8, rfl, hx8, hs8, ha8, hb8⟩; refine Hid.out ?_)
    obtain ⟨k8, a8, t8, n8, o8, l8, c8, q8, rfl, rfl, hk8⟩ := hx8.shape
    have HS8 := Lib.hid hs8
    have TR8 := Lib.hid (synIn.of (l2 := (w4.heap.size + 1)) (ps := []) hx8 (by have := TT7.out.lt; omega) (by simp))
    have A8 := Lib.hid ha8; have B8 := Lib.hid (B7.out.trans hb8)
    have XR8 := Lib.hid (XR7.out.butt HPR.out hb8)
    have TT8 := Lib.hid (TT7.out.butt PTT.out hb8)
    have TR58 := Lib.hid (TR57.out.butt HLT3.out hb8)
    have TR68 := Lib.hid (TR67.out.butt HLT3.out hb8)
    have TR78 := Lib.hid (TR7.out.butt HLT3.out hb8)
    clear ha8 hb8 hx8 hk8 hs8
    refine Lib.hid ?_
    have HR8 := Lib.hid (Nat.le_trans (Run.rem HS8.out) HR7.out)
    have OW := Lib.hid (ownT.new (flatIn.cons TR58.out (flatIn.cons TR68.out (flatIn.cons TR78.out (flatIn.one TR8.out)))) (by have := TT8.out.lt; omega) 4 rfl (by decide))
    have A8a1 := Lib.hid (A8.out.alloc (Obj.cells #[.int .i64 k5, .int .i64 a5, .string t5, .int .i64 n5, .slice o5 l5 c5, .int .i64 k6, .int .i64 a6, .string t6, .int .i64 n6, .slice o6 l6 c6, .int .i64 k7, .int .i64 a7, .string t7, .int .i64 n7, .slice o7 l7 c7, .int .i64 k8, .int .i64 a8, .string t8, .int .i64 n8, .slice o8 l8 c8] 25)); have B8a1 := Lib.hid (B8.out.alloc HRW.out (Obj.cells #[.int .i64 k5, .int .i64 a5, .string t5, .int .i64 n5, .slice o5 l5 c5, .int .i64 k6, .int .i64 a6, .string t6, .int .i64 n6, .slice o6 l6 c6, .int .i64 k7, .int .i64 a7, .string t7, .int .i64 n7, .slice o7 l7 c7, .int .i64 k8, .int .i64 a8, .string t8, .int .i64 n8, .slice o8 l8 c8] 25))
    have XR8a1 := Lib.hid (XR8.out.alloc (Obj.cells #[.int .i64 k5, .int .i64 a5, .string t5, .int .i64 n5, .slice o5 l5 c5, .int .i64 k6, .int .i64 a6, .string t6, .int .i64 n6, .slice o6 l6 c6, .int .i64 k7, .int .i64 a7, .string t7, .int .i64 n7, .slice o7 l7 c7, .int .i64 k8, .int .i64 a8, .string t8, .int .i64 n8, .slice o8 l8 c8] 25))
    have TT8a1 := Lib.hid (TT8.out.alloc (Obj.cells #[.int .i64 k5, .int .i64 a5, .string t5, .int .i64 n5, .slice o5 l5 c5, .int .i64 k6, .int .i64 a6, .string t6, .int .i64 n6, .slice o6 l6 c6, .int .i64 k7, .int .i64 a7, .string t7, .int .i64 n7, .slice o7 l7 c7, .int .i64 k8, .int .i64 a8, .string t8, .int .i64 n8, .slice o8 l8 c8] 25))
    go_wp2_with (go_at_call 89; refine (KKB.out _ HR8.out _ A8a1.out).mono ?_; rintro e w9 ⟨x9, v9, s9, rfl, hx9, hs9, ha9, hb9⟩; refine Hid.out ?_)
    obtain ⟨k9, a9, t9, n9, o9, l9, c9, q9, rfl, rfl, hk9⟩ := hx9.shape
    have HOFF := Lib.hid (OW.out.off (Nat.le_refl _) hx9 (by have := TT8a1.out.lt; omega))
    have HS9 := Lib.hid hs9
    have TR9 := Lib.hid (synIn.of (l2 := (w4.heap.size + 1)) (ps := []) hx9 (by have := TT8a1.out.lt; omega) (by simp))
    have A9 := Lib.hid ha9; have B9 := Lib.hid (B8a1.out.trans hb9)
    have XR9 := Lib.hid (XR8a1.out.butt HPR.out hb9)
    have TT9 := Lib.hid (TT8a1.out.butt PTT.out hb9)
    have OW9 := Lib.hid (OW.out.keep (Nat.le_refl _) (hb9.froms HLT3.out))
    clear ha9 hb9 hx9 hk9 hs9
    refine Lib.hid ?_
    have A9a2 := Lib.hid (A9.out.alloc (Obj.cells #[.int .i64 k9, .int .i64 a9, .string t9, .int .i64 n9, .slice o9 l9 c9] 25)); have B9a2 := Lib.hid (B9.out.alloc HRW.out (Obj.cells #[.int .i64 k9, .int .i64 a9, .string t9, .int .i64 n9, .slice o9 l9 c9] 25))
    have XR9a2 := Lib.hid (XR9.out.alloc (Obj.cells #[.int .i64 k9, .int .i64 a9, .string t9, .int .i64 n9, .slice o9 l9 c9] 25))
    have TT9a2 := Lib.hid (TT9.out.alloc (Obj.cells #[.int .i64 k9, .int .i64 a9, .string t9, .int .i64 n9, .slice o9 l9 c9] 25))
    have OW9a2 := Lib.hid (OW9.out.keep (Nat.le_refl _) (From.of_below ((Below.refl _ _).alloc (Nat.le_refl _) (Obj.cells #[.int .i64 k9, .int .i64 a9, .string t9, .int .i64 n9, .slice o9 l9 c9] 25))))
    have HZ := Lib.hid (HOFF.out.below ((Below.refl _ _).alloc (Nat.le_refl _) (Obj.cells #[.int .i64 k9, .int .i64 a9, .string t9, .int .i64 n9, .slice o9 l9 c9] 25)))
    have HB1 : Hid (w4.heap.size + 1 ≤ (w9.alloc (Obj.cells #[.int .i64 k9, .int .i64 a9, .string t9, .int .i64 n9, .slice o9 l9 c9] 25)).heap.size) := Lib.hid (by have := TT9a2.out.lt; omega)
    go_wp2_with (first | (at_builtin; refine wpList_append_tree rfl (.tmp 27) (.tmp 30) rfl (w4.heap.size + 1) _ [(.mk k5 a5 t5 n5 q5), (.mk k6 a6 t6 n6 q6), (.mk k7 a7 t7 n7 q7), (.mk k8 a8 t8 n8 q8)] (by simp [Act.eval, Act.put]) OW9a2.out (by simp) HB1.out w9.heap.size _ _ _ _ _ _ (by simp [Act.eval, Act.put]) HZ.out ⟨rfl, rfl, rfl, rfl, rfl⟩ (by go_cell) (by go_cell) (by go_cell) (by go_cell) (by go_cell) ?_; intro v9 ao9 cap9 w9 hv9 ho9 hg9; refine Hid.out ?_) | fail)
    subst hv9
    have hgl := grownBy_froms hg9 (fun b e => (OW9a2.out.lo b e).1) HLT3.out HB1.out
    have hgr := At.grow HA0.out A9a2.out B9a2.out (Below.down hgl (Nat.le_succ_of_le B4.out.size))
    have A99 := Lib.hid hgr.1; have B99 := Lib.hid hgr.2; have O99 := Lib.hid ho9
    have XR99 := Lib.hid (XR9a2.out.down hgl (by have := XR4.out.lt; omega)); have TT99 := Lib.hid (TT9a2.out.down hgl (Nat.lt_succ_self _))
    clear hgl hgr ho9 hg9
    refine Lib.hid ?_
    have KR := Lib.hid (ownT.kidsIn (l2 := w.heap.size) (ps := [w.heap.size]) O99.out (Nat.le_succ_of_le B4.out.size) (by have := XR4.out.lt; simp; omega))
    have zTT := TT99.out
    have yTT0 := zTT.c0
    have yTT1 := zTT.c1
    have yTT2 := zTT.c2
    clear zTT
    go_wp2_with (go_at_call 59; refine (pnode_any _ _ _ _ _ _ _).mono ?_; rintro e w21 ⟨rfl, hb21⟩; refine Hid.out ?_)
    have HBZ := Lib.hid hb21
    have hbx := Butt.of_below (R := R) A99.out.fix.lt hb21
    have ha21 : At R L w21 _ _ := ⟨A99.out.fix.butt hbx, A99.out.rs.below hb21⟩
    have TN := Lib.hid (synIn_mk.mpr ⟨_, rfl, KR.out.keep ⟨HBZ.out.size, fun k _ h => HBZ.out.block k h⟩ (fun _ h _ => h)⟩ : synIn (offs w.heap.size [w.heap.size]) w21 (.mk 2 pa et 0 [(.mk k5 a5 t5 n5 q5), (.mk k6 a6 t6 n6 q6), (.mk k7 a7 t7 n7 q7), (.mk k8 a8 t8 n8 q8), (.mk k9 a9 t9 n9 q9)]) _)
    have hb21 := hbx; clear hbx
    have A21 := Lib.hid ha21; have B21 := Lib.hid (B99.out.trans hb21)
    have XR21 := Lib.hid (XR99.out.butt HPR.out hb21)
    have TT21 := Lib.hid (TT99.out.butt PTT.out hb21)
    clear ha21 hb21
    refine Lib.hid ?_
    have FT := Lib.hid (store5 HA0.out B21.out A21.out XR21.out (Nat.le_refl _) (.int .i64 2) (.int .i64 pa) (.string et) (.int .i64 0) (.slice ao9 5 cap9) _ rfl)
    have GX := Lib.hid ((TN.out).kept (by simp) FT.out.2.2.2).at
    have zXR := XR21.out
    have yXR0 := zXR.c0
    have yXR1 := zXR.c1
    have yXR2 := zXR.c2
    have yXR3 := zXR.c3
    have yXR4 := zXR.c4
    have fXR0 := zXR.free 0
    have fXR1 := zXR.free 1
    have fXR2 := zXR.free 2
    have fXR3 := zXR.free 3
    have fXR4 := zXR.free 4
    clear zXR
    obtain ⟨r0, r1, r2, r3, r4⟩ := FT.out.1
    have GA := Lib.hid FT.out.2.1; have GB := Lib.hid FT.out.2.2.1
    clear FT
    go_wp2
    refine bodyPost_ret (by simp [results, Tryz.results47, go_sem, r0, r1, r2, r3, r4]; rfl) rfl ?_
    exact ⟨_, _, _, rfl, GX.out, HM.out s0 s1 s2 _ _ _ _ _ ⟨ek, et, ea⟩ _ _ _ _ _ false HBB.out (by rw [← HS0.out, HBB.out]) HS1.out.symm HNM.out HS5.out HS6.out HS7.out HS8.out (.inr ⟨rfl, _, rfl, HS9.out⟩), GA.out, GB.out⟩
end Go.Proofs.YtdibcllakkjegaaGreatDoor
