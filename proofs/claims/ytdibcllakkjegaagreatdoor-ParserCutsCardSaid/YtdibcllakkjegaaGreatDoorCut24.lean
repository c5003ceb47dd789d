import Derived.Test.YtdibcllakkjegaaGreatDoorCut23

set_option linter.unusedVariables false
/-
  parser: program.
-/
set_option linter.unusedSimpArgs false
set_option linter.unusedVariables false
namespace Go.Proofs.YtdibcllakkjegaaGreatDoor
open Go Go.Proofs Go.RowKit Go.Sort
theorem Less.need {f : Nat} {s : List UInt8} : Less f (mNeed s) := by
  intro l y l' h e
  unfold mNeed at e
  split at e
  · cases e; exact pTl_less h
  · cases e
theorem Less.mono {α β : Type} {f : Nat} {m : Rd α} {k : α → Rd β} (h : Mono f m) (g : ∀ x, Less f (k x)) (g2 : ∀ x, Mono f (k x)) : Less f (mBind m k) := by
  intro l y l' h2 e
  obtain ⟨⟨x, l1⟩, e1, e2⟩ := ebind_ok e
  have h3 := h l x l1 e1
  by_cases h4 : 2 ≤ l1.length
  · exact Nat.lt_of_lt_of_le (g x l1 y l' h4 e2) h3
  · have := g2 x l1 y l' e2
    omega
theorem Less.record {f d : Nat} : Less f (mRead .record d) := by
  intro l x l' h e
  cases f with
  | zero => unfold mRead at e; rw [pRead] at e; cases e
  | succ f =>
    unfold mRead at e
    rw [eq_record] at e
    exact Less.bind (f := f) Less.need (fun _ => Mono.bind Mono.name fun _ => Mono.bind Mono.need fun _ => Mono.bind (mono_read _ _ _) fun _ => Mono.bind Mono.need fun _ => Mono.ret) l x l' h e
theorem mono_params {f d : Nat} : Mono f (mParams d) := Mono.bind Mono.need fun _ => Mono.bind (Mono.before (mono_read _ _ _)) fun _ => Mono.bind Mono.need fun _ => Mono.ret
theorem mono_results {f d : Nat} : Mono f (mResults d) := Mono.bind Mono.is fun _ => Mono.ite (Mono.bind Mono.take fun _ => Mono.bind Mono.need fun _ => Mono.bind (mono_read _ _ _) fun _ => Mono.bind Mono.need fun _ => Mono.ret) (Mono.bind Mono.peek fun _ => Mono.ret)
theorem mono_when {f d : Nat} {s : List UInt8} : Mono f (mWhen s d) := Mono.bind Mono.peek fun _ => Mono.bind Mono.is fun _ => Mono.ite (Mono.bind Mono.take fun _ => Mono.bind (mono_read _ _ _) fun _ => Mono.ret) Mono.ret
theorem Less.proc {f d : Nat} : Less f (mRead .proc d) := by
  intro l x l' h e
  cases f with
  | zero => unfold mRead at e; rw [pRead] at e; cases e
  | succ f =>
    unfold mRead at e
    rw [eq_proc] at e
    revert h e
    revert l x l'
    show Less f (mProc d)
    have K1 : Keep f mPeek := by intro l y l' e; cases e; rfl
    have K2 : ∀ s, Keep f (mIs s) := by intro s l y l' e; cases e; rfl
    have M : ∀ (ext : Bool) (p : Tk), Mono f (mBind mName fun t => mBind (mParams d) fun k1 => mBind (mResults d) fun k2 => mBind (mWhen wRequires d) fun k3 => mBind (mWhen wEnsures d) fun k4 => if ext = true then (mBind (mNeed [59]) fun _ => mRet [Syn.mk 2 p.a t.t 0 [k1, k2, k3, k4]]) else mBind (mRead .body d) fun b => mRet [Syn.mk 2 p.a t.t 0 ([k1, k2, k3, k4] ++ b)]) := fun ext p =>
      Mono.bind Mono.name fun _ => Mono.bind mono_params fun _ => Mono.bind mono_results fun _ => Mono.bind mono_when fun _ => Mono.bind mono_when fun _ => Mono.ite (Mono.bind Mono.need fun _ => Mono.ret) (Mono.bind (mono_read _ _ _) fun _ => Mono.ret)
    unfold mProc
    exact Less.keep K1 fun p => Less.keep (K2 _) fun ext => Less.mono (Mono.ite Mono.take Mono.peek) (fun _ => Less.bind Less.need fun _ => M ext p) (fun _ => Mono.bind Mono.need fun _ => M ext p)
theorem stp_less {w : Want} {d : Nat} {l : List Tk} {xs : List Syn} {st' : RSt} (hm : ∀ f, Less f (mRead w d)) (h2 : 2 ≤ l.length) (h : Stp w d (.ok l) xs st') : st'.rem + 1 ≤ l.length := by
  rcases elS h with ⟨l1, rfl, -, -, N, hN⟩ | ⟨a, e, -, rfl, -⟩
  · exact hm N l xs l1 h2 (hN N (Nat.le_refl _))
  · show 0 + 1 ≤ _
    omega
section
variable {L : List Tk} {d : Nat} {a : Int} {s s2 s' : RSt} {y : Syn} {ys : List Syn}
theorem pgm_record (hf : s.fine) (hb : tIs L s ⟨#[114, 101, 99, 111, 114, 100]⟩ = true) (h : Stp .record d s [y] s2) (ht : Stp (.program a) d s2 ys s') : Stp (.program a) d s (y :: ys) s' :=
  st_program (Run.bind (run_is (L := L) hf wRecord) (Run.ite (fun _ => Run.bind h (Run.bind ht (run_ret (Run.fine ht (Run.fine h hf))))) (fun e => absurd hb e)))
theorem pgm_proc (hf : s.fine) (hv : tIs L s ⟨#[114, 101, 99, 111, 114, 100]⟩ = false) (hb : tIs L s ⟨#[112, 114, 111, 99]⟩ = true ∨ tIs L s ⟨#[105, 109, 112, 111, 114, 116]⟩ = true) (h : Stp .proc d s [y] s2) (ht : Stp (.program a) d s2 ys s') : Stp (.program a) d s (y :: ys) s' :=
  st_program (Run.bind (run_is (L := L) hf wRecord) (Run.ite (fun e => absurd (hv.symm.trans e) (by decide)) (fun _ => Run.bind (run_is (L := L) hf wProc) (Run.bind (run_is (L := L) hf wImport) (Run.ite (fun _ => Run.bind h (Run.bind ht (run_ret (Run.fine ht (Run.fine h hf))))) (fun e => absurd hb e))))))
theorem pgm_nil (hf : s.fine) (hv : tIs L s ⟨#[114, 101, 99, 111, 114, 100]⟩ = false) (h1 : tIs L s ⟨#[112, 114, 111, 99]⟩ = false) (h2 : tIs L s ⟨#[105, 109, 112, 111, 114, 116]⟩ = false) : Stp (.program a) d s [] s :=
  st_program (Run.bind (run_is (L := L) hf wRecord) (Run.ite (fun e => absurd (hv.symm.trans e) (by decide)) (fun _ => Run.bind (run_is (L := L) hf wProc) (Run.bind (run_is (L := L) hf wImport) (Run.ite (fun e => e.elim (fun e => absurd (h1.symm.trans e) (by decide)) (fun e => absurd (h2.symm.trans e) (by decide))) (fun _ => run_ret hf))))))
end
structure PgmAt (R : Nat) (L : List Tk) (w : World) (d : Nat) (st : RSt) (a : Int) (wr : World) (s : RSt) (xs : List Syn) (v : Value) : Prop where
  hat : At R L wr d s
  hb : Butt R w wr
  own : ownT (w.heap.size + 1) wr xs v
  xr : Bx5 wr w.heap.size (.int .i64 0) (.int .i64 0) (.string ⟨#[]⟩) (.int .i64 0) (.slice none 0 0)
  len : xs.length + s.rem ≤ st.rem
  go : ∀ ys s', Stp (.program a) d s ys s' → Stp (.program a) d st (xs ++ ys) s'
set_option maxRecDepth 20000 in
set_option maxHeartbeats 4000000 in
theorem pprogram {R : Nat} {L : List Tk} {d : Nat} {st : RSt} {w : World} (h : At R L w d st) (KP : ∀ s : RSt, s.rem ≤ st.rem → GT 47 R L #[.pointer (some ⟨R, 0, none⟩)] .proc d s) :
    Calls Tryz.prog 30 #[.pointer (some ⟨R, 0, none⟩)] w (fun e W' => ∃ xs v st', e = .returned v ∧ synAt w.heap.size W' (.mk 0 (cur L st).a ⟨#[]⟩ 0 xs) v ∧ Stp (.program (cur L st).a) d st xs st' ∧ At R L W' d st' ∧ Butt R w W') := by
  have HTL := Lib.hid h.fix.toks; have HRA := Lib.hid h.rem
  have CH := fun W (H : At R L W d st) => shere H
  generalize (cur L st).a = pa at *
  have KH := Lib.hid CH; have KPP := Lib.hid KP
  have HA0 := Lib.hid h
  have HLT := Lib.hid h.fix.lt; have HRW := Lib.hid h.fix.lt
  have hA := h.alloc (Obj.cells #[.int .i64 0, .int .i64 0, .string ⟨#[]⟩, .int .i64 0, .slice none 0 0] 25)
  have hB := (Butt.refl R w).alloc h.fix.lt (Obj.cells #[.int .i64 0, .int .i64 0, .string ⟨#[]⟩, .int .i64 0, .slice none 0 0] 25)
  have hX := Bx5.new w (.int .i64 0) (.int .i64 0) (.string ⟨#[]⟩) (.int .i64 0) (.slice none 0 0)
  have hpR : w.heap.size ≠ R := fun e => absurd h.fix.lt (by rw [e]; exact Nat.lt_irrefl _)
  have hls : w.heap.size < (w.alloc (Obj.cells #[.int .i64 0, .int .i64 0, .string ⟨#[]⟩, .int .i64 0, .slice none 0 0] 25)).heap.size := by simp
  have A0 := Lib.hid hA; have B0 := Lib.hid hB; have XR0 := Lib.hid hX; have HPR := Lib.hid hpR; have HLS := Lib.hid hls
  clear hA hB hX hpR hls h CH KP
  go_enter Tryz.func30, Tryz.ntmps30
  go_wp2_with (go_at_call 56; refine (KH.out _ A0.out).mono ?_; rintro e w1 ⟨rfl, ha1, hb1⟩; refine Hid.out ?_)
  have A1 := Lib.hid ha1; have B1 := Lib.hid (B0.out.trans hb1)
  have XR1 := Lib.hid (XR0.out.butt HPR.out hb1)
  clear ha1 hb1
  refine Lib.hid ?_
  have HLT2 : Hid (R < w.heap.size + 1) := Lib.hid (by have := HRW.out; omega)
  go_wp2_with fail
  go_loopw [4] (fun v wr => ∃ (s : RSt) (xs : List Syn) (ao : Option Addr) (c : Nat), v = .slice ao xs.length c ∧ PgmAt R L w d st pa wr s xs v) (fun _ wr => remW R L wr)
  case atStart => exact ⟨st, [], none, 0, rfl, A1.out, B1.out, ownT.nil _ _, XR1.out, by simp, fun ys s' hs => hs⟩
  case round =>
    obtain ⟨s, xs, ao, c, rfl, hrel⟩ := hrel
    have C0 := fun W (H : At R L W d s) => sis H ⟨#[114, 101, 99, 111, 114, 100]⟩
    have C1 := fun W (H : At R L W d s) => sis H ⟨#[112, 114, 111, 99]⟩
    have C2 := fun W (H : At R L W d s) => sis H ⟨#[105, 109, 112, 111, 114, 116]⟩
    have HSR : Hid (s.rem ≤ st.rem) := Lib.hid (by have := hrel.len; omega)
    have HR := Lib.hid hrel
    cases h0 : tIs L s ⟨#[114, 101, 99, 111, 114, 100]⟩ with
    | true =>
      rw [h0] at C0
      have HC0 := Lib.hid h0; have HTX := Lib.hid (word_text (by decide) h0); clear h0
      have K0 := Lib.hid C0; have K1 := Lib.hid C1; have K2 := Lib.hid C2
      have A0 := Lib.hid hrel.hat; have B0 := Lib.hid hrel.hb; have OW := Lib.hid hrel.own; have XR0 := Lib.hid hrel.xr
      clear C0 C1 C2 hrel
      go_wp2_with (go_at_call 57; refine (K0.out _ A0.out).mono ?_; rintro e w1 ⟨rfl, ha1, hb1⟩; refine Hid.out ?_)
      have A1 := Lib.hid ha1; have B1 := Lib.hid (B0.out.trans hb1)
      have XR1 := Lib.hid (XR0.out.butt HPR.out hb1)
      have OW1 := Lib.hid (OW.out.keep (Nat.le_refl _) (hb1.froms HLT2.out))
      clear ha1 hb1
      refine Lib.hid ?_
      go_wp2_with (go_at_call 58; refine (precord A1.out).mono ?_; rintro e w2 ⟨x2, v2, s2, rfl, hx2, hs2, ha2, hb2⟩; refine Hid.out ?_)
      obtain ⟨k2, a2, t2, n2, o2, l2, c2, q2, rfl, rfl, hk2⟩ := hx2.shape
      have HS2 := Lib.hid hs2
      have HOFF := Lib.hid (OW1.out.off (Nat.le_refl _) hx2 (by have := XR1.out.lt; omega))
      have HLEN : Hid ((xs ++ [Syn.mk k2 a2 t2 n2 q2]).length + s2.rem ≤ st.rem) := Lib.hid (by
        obtain ⟨l1, e1, -, e3⟩ := rem_less HTL.out HR.out.hat HTX.out
        have g1 := HR.out.len
        have g2 := stp_less (fun f => Less.record) e3 (e1 ▸ HS2.out)
        rw [e1, show (RSt.ok l1).rem = l1.length from rfl] at g1
        rw [List.length_append, show [Syn.mk k2 a2 t2 n2 q2].length = 1 from rfl]
        omega)
      have TR2 := Lib.hid (synIn.of (l2 := (w.heap.size + 1)) (ps := []) hx2 (by have := XR1.out.lt; omega) (by simp))
      have A2 := Lib.hid ha2; have B2 := Lib.hid (B1.out.trans hb2)
      have XR2 := Lib.hid (XR1.out.butt HPR.out hb2)
      have OW2 := Lib.hid (OW1.out.keep (Nat.le_refl _) (hb2.froms HLT2.out))
      clear ha2 hb2 hx2 hk2 hs2
      refine Lib.hid ?_
      have A2a := Lib.hid (A2.out.alloc (Obj.cells #[.int .i64 k2, .int .i64 a2, .string t2, .int .i64 n2, .slice o2 l2 c2] 25)); have B2a := Lib.hid (B2.out.alloc HRW.out (Obj.cells #[.int .i64 k2, .int .i64 a2, .string t2, .int .i64 n2, .slice o2 l2 c2] 25))
      have XR2a := Lib.hid (XR2.out.alloc (Obj.cells #[.int .i64 k2, .int .i64 a2, .string t2, .int .i64 n2, .slice o2 l2 c2] 25))
      have OW2a := Lib.hid (OW2.out.keep (Nat.le_refl _) (From.of_below ((Below.refl _ _).alloc (Nat.le_refl _) (Obj.cells #[.int .i64 k2, .int .i64 a2, .string t2, .int .i64 n2, .slice o2 l2 c2] 25))))
      have HZ := Lib.hid (HOFF.out.below ((Below.refl _ _).alloc (Nat.le_refl _) (Obj.cells #[.int .i64 k2, .int .i64 a2, .string t2, .int .i64 n2, .slice o2 l2 c2] 25)))
      have HL1 : Hid (xs.length ≤ 1200000) := Lib.hid (by have := HR.out.len; have := HRA.out; omega)
      have HB1 : Hid (w.heap.size + 1 ≤ (w2.alloc (Obj.cells #[.int .i64 k2, .int .i64 a2, .string t2, .int .i64 n2, .slice o2 l2 c2] 25)).heap.size) := Lib.hid (by have := XR2a.out.lt; omega)
      go_wp2_with (first | (at_builtin; refine wpList_append_tree rfl (.tmp 13) (.tmp 16) rfl (w.heap.size + 1) _ xs (by simp [Act.eval, Act.put]) OW2a.out HL1.out HB1.out w2.heap.size _ _ _ _ _ _ (by simp [Act.eval, Act.put]) HZ.out ⟨rfl, rfl, rfl, rfl, rfl⟩ (by go_cell) (by go_cell) (by go_cell) (by go_cell) (by go_cell) ?_; intro v9 ao9 cap9 w9 hv9 ho9 hg9; refine Hid.out ?_) | fail)
      subst hv9
      have hgl := grownBy_froms hg9 (fun b e => (OW2a.out.lo b e).1) HLT2.out HB1.out
      have hgr := At.grow HA0.out A2a.out B2a.out (Below.down hgl (Nat.le_succ _))
      have HNX : Hid (PgmAt R L w d st pa w9 s2 (xs ++ [.mk k2 a2 t2 n2 q2]) _) := Lib.hid ⟨hgr.1, hgr.2, ho9, XR2a.out.down hgl (Nat.lt_succ_self _), HLEN.out, fun ys s' ht => by have e := HR.out.go _ _ (pgm_record HR.out.hat.fine HC0.out HS2.out ht); rw [List.append_assoc]; exact e⟩
      clear hgl hgr ho9 hg9
      refine Lib.hid ?_
      go_wp2
      go_roundw
      case rel => exact ⟨s2, xs ++ [.mk k2 a2 t2 n2 q2], ao9, cap9, by rw [List.length_append]; rfl, HNX.out⟩
      case measure =>
        obtain ⟨l1, e1, -, e3⟩ := rem_less HTL.out HR.out.hat HTX.out
        have g1 := remW_ok (e1 ▸ HR.out.hat)
        have g2 := remW_le HNX.out.hat
        have g3 := stp_less (fun f => Less.record) e3 (e1 ▸ HS2.out)
        rw [g1]
        omega
    | false =>
      rw [h0] at C0
      cases h1 : tIs L s ⟨#[112, 114, 111, 99]⟩ with
      | true =>
        rw [h1] at C1
        have HC0 := Lib.hid h0; have HC1 : Hid (tIs L s ⟨#[112, 114, 111, 99]⟩ = true ∨ tIs L s ⟨#[105, 109, 112, 111, 114, 116]⟩ = true) := Lib.hid (.inl h1); have HTX := Lib.hid (word_text (by decide) h1); clear h0 h1
        have K0 := Lib.hid C0; have K1 := Lib.hid C1; have K2 := Lib.hid C2
        have A0 := Lib.hid hrel.hat; have B0 := Lib.hid hrel.hb; have OW := Lib.hid hrel.own; have XR0 := Lib.hid hrel.xr
        clear C0 C1 C2 hrel
        go_wp2_with (go_at_call 57; refine (K0.out _ A0.out).mono ?_; rintro e w1 ⟨rfl, ha1, hb1⟩; refine Hid.out ?_)
        have A1 := Lib.hid ha1; have B1 := Lib.hid (B0.out.trans hb1)
        have XR1 := Lib.hid (XR0.out.butt HPR.out hb1)
        have OW1 := Lib.hid (OW.out.keep (Nat.le_refl _) (hb1.froms HLT2.out))
        clear ha1 hb1
        refine Lib.hid ?_
        go_wp2_with (go_at_call 57; refine (K1.out _ A1.out).mono ?_; rintro e w2 ⟨rfl, ha2, hb2⟩; refine Hid.out ?_)
        have A2 := Lib.hid ha2; have B2 := Lib.hid (B1.out.trans hb2)
        have XR2 := Lib.hid (XR1.out.butt HPR.out hb2)
        have OW2 := Lib.hid (OW1.out.keep (Nat.le_refl _) (hb2.froms HLT2.out))
        clear ha2 hb2
        refine Lib.hid ?_
        go_wp2_with (go_at_call 47; refine (KPP.out s HSR.out _ A2.out).mono ?_; rintro e w3 ⟨x3, v3, s3, rfl, hx3, hs3, ha3, hb3⟩; refine Hid.out ?_)
        obtain ⟨k3, a3, t3, n3, o3, l3, c3, q3, rfl, rfl, hk3⟩ := hx3.shape
        have HS3 := Lib.hid hs3
        have HOFF := Lib.hid (OW2.out.off (Nat.le_refl _) hx3 (by have := XR2.out.lt; omega))
        have HLEN : Hid ((xs ++ [Syn.mk k3 a3 t3 n3 q3]).length + s3.rem ≤ st.rem) := Lib.hid (by
          obtain ⟨l1, e1, -, e3⟩ := rem_less HTL.out HR.out.hat HTX.out
          have g1 := HR.out.len
          have g2 := stp_less (fun f => Less.proc) e3 (e1 ▸ HS3.out)
          rw [e1, show (RSt.ok l1).rem = l1.length from rfl] at g1
          rw [List.length_append, show [Syn.mk k3 a3 t3 n3 q3].length = 1 from rfl]
          omega)
        have TR3 := Lib.hid (synIn.of (l2 := (w.heap.size + 1)) (ps := []) hx3 (by have := XR2.out.lt; omega) (by simp))
        have A3 := Lib.hid ha3; have B3 := Lib.hid (B2.out.trans hb3)
        have XR3 := Lib.hid (XR2.out.butt HPR.out hb3)
        have OW3 := Lib.hid (OW2.out.keep (Nat.le_refl _) (hb3.froms HLT2.out))
        clear ha3 hb3 hx3 hk3 hs3
        refine Lib.hid ?_
        have A3a := Lib.hid (A3.out.alloc (Obj.cells #[.int .i64 k3, .int .i64 a3, .string t3, .int .i64 n3, .slice o3 l3 c3] 25)); have B3a := Lib.hid (B3.out.alloc HRW.out (Obj.cells #[.int .i64 k3, .int .i64 a3, .string t3, .int .i64 n3, .slice o3 l3 c3] 25))
        have XR3a := Lib.hid (XR3.out.alloc (Obj.cells #[.int .i64 k3, .int .i64 a3, .string t3, .int .i64 n3, .slice o3 l3 c3] 25))
        have OW3a := Lib.hid (OW3.out.keep (Nat.le_refl _) (From.of_below ((Below.refl _ _).alloc (Nat.le_refl _) (Obj.cells #[.int .i64 k3, .int .i64 a3, .string t3, .int .i64 n3, .slice o3 l3 c3] 25))))
        have HZ := Lib.hid (HOFF.out.below ((Below.refl _ _).alloc (Nat.le_refl _) (Obj.cells #[.int .i64 k3, .int .i64 a3, .string t3, .int .i64 n3, .slice o3 l3 c3] 25)))
        have HL1 : Hid (xs.length ≤ 1200000) := Lib.hid (by have := HR.out.len; have := HRA.out; omega)
        have HB1 : Hid (w.heap.size + 1 ≤ (w3.alloc (Obj.cells #[.int .i64 k3, .int .i64 a3, .string t3, .int .i64 n3, .slice o3 l3 c3] 25)).heap.size) := Lib.hid (by have := XR3a.out.lt; omega)
        go_wp2_with (first | (at_builtin; refine wpList_append_tree rfl (.tmp 23) (.tmp 26) rfl (w.heap.size + 1) _ xs (by simp [Act.eval, Act.put]) OW3a.out HL1.out HB1.out w3.heap.size _ _ _ _ _ _ (by simp [Act.eval, Act.put]) HZ.out ⟨rfl, rfl, rfl, rfl, rfl⟩ (by go_cell) (by go_cell) (by go_cell) (by go_cell) (by go_cell) ?_; intro v9 ao9 cap9 w9 hv9 ho9 hg9; refine Hid.out ?_) | fail)
        subst hv9
        have hgl := grownBy_froms hg9 (fun b e => (OW3a.out.lo b e).1) HLT2.out HB1.out
        have hgr := At.grow HA0.out A3a.out B3a.out (Below.down hgl (Nat.le_succ _))
        have HNX : Hid (PgmAt R L w d st pa w9 s3 (xs ++ [.mk k3 a3 t3 n3 q3]) _) := Lib.hid ⟨hgr.1, hgr.2, ho9, XR3a.out.down hgl (Nat.lt_succ_self _), HLEN.out, fun ys s' ht => by have e := HR.out.go _ _ (pgm_proc HR.out.hat.fine HC0.out HC1.out HS3.out ht); rw [List.append_assoc]; exact e⟩
        clear hgl hgr ho9 hg9
        refine Lib.hid ?_
        go_wp2
        go_roundw
        case rel => exact ⟨s3, xs ++ [.mk k3 a3 t3 n3 q3], ao9, cap9, by rw [List.length_append]; rfl, HNX.out⟩
        case measure =>
          obtain ⟨l1, e1, -, e3⟩ := rem_less HTL.out HR.out.hat HTX.out
          have g1 := remW_ok (e1 ▸ HR.out.hat)
          have g2 := remW_le HNX.out.hat
          have g3 := stp_less (fun f => Less.proc) e3 (e1 ▸ HS3.out)
          rw [g1]
          omega
      | false =>
        rw [h1] at C1
        cases h2 : tIs L s ⟨#[105, 109, 112, 111, 114, 116]⟩ with
        | true =>
          rw [h2] at C2
          have HC0 := Lib.hid h0; have HC1 : Hid (tIs L s ⟨#[112, 114, 111, 99]⟩ = true ∨ tIs L s ⟨#[105, 109, 112, 111, 114, 116]⟩ = true) := Lib.hid (.inr h2); have HTX := Lib.hid (word_text (by decide) h2); clear h0 h1 h2
          have K0 := Lib.hid C0; have K1 := Lib.hid C1; have K2 := Lib.hid C2
          have A0 := Lib.hid hrel.hat; have B0 := Lib.hid hrel.hb; have OW := Lib.hid hrel.own; have XR0 := Lib.hid hrel.xr
          clear C0 C1 C2 hrel
          go_wp2_with (go_at_call 57; refine (K0.out _ A0.out).mono ?_; rintro e w1 ⟨rfl, ha1, hb1⟩; refine Hid.out ?_)
          have A1 := Lib.hid ha1; have B1 := Lib.hid (B0.out.trans hb1)
          have XR1 := Lib.hid (XR0.out.butt HPR.out hb1)
          have OW1 := Lib.hid (OW.out.keep (Nat.le_refl _) (hb1.froms HLT2.out))
          clear ha1 hb1
          refine Lib.hid ?_
          go_wp2_with (go_at_call 57; refine (K1.out _ A1.out).mono ?_; rintro e w2 ⟨rfl, ha2, hb2⟩; refine Hid.out ?_)
          have A2 := Lib.hid ha2; have B2 := Lib.hid (B1.out.trans hb2)
          have XR2 := Lib.hid (XR1.out.butt HPR.out hb2)
          have OW2 := Lib.hid (OW1.out.keep (Nat.le_refl _) (hb2.froms HLT2.out))
          clear ha2 hb2
          refine Lib.hid ?_
          go_wp2_with (go_at_call 57; refine (K2.out _ A2.out).mono ?_; rintro e w3 ⟨rfl, ha3, hb3⟩; refine Hid.out ?_)
          have A3 := Lib.hid ha3; have B3 := Lib.hid (B2.out.trans hb3)
          have XR3 := Lib.hid (XR2.out.butt HPR.out hb3)
          have OW3 := Lib.hid (OW2.out.keep (Nat.le_refl _) (hb3.froms HLT2.out))
          clear ha3 hb3
          refine Lib.hid ?_
          go_wp2_with (go_at_call 47; refine (KPP.out s HSR.out _ A3.out).mono ?_; rintro e w4 ⟨x4, v4, s4, rfl, hx4, hs4, ha4, hb4⟩; refine Hid.out ?_)
          obtain ⟨k4, a4, t4, n4, o4, l4, c4, q4, rfl, rfl, hk4⟩ := hx4.shape
          have HS4 := Lib.hid hs4
          have HOFF := Lib.hid (OW3.out.off (Nat.le_refl _) hx4 (by have := XR3.out.lt; omega))
          have HLEN : Hid ((xs ++ [Syn.mk k4 a4 t4 n4 q4]).length + s4.rem ≤ st.rem) := Lib.hid (by
            obtain ⟨l1, e1, -, e3⟩ := rem_less HTL.out HR.out.hat HTX.out
            have g1 := HR.out.len
            have g2 := stp_less (fun f => Less.proc) e3 (e1 ▸ HS4.out)
            rw [e1, show (RSt.ok l1).rem = l1.length from rfl] at g1
            rw [List.length_append, show [Syn.mk k4 a4 t4 n4 q4].length = 1 from rfl]
            omega)
          have TR4 := Lib.hid (synIn.of (l2 := (w.heap.size + 1)) (ps := []) hx4 (by have := XR3.out.lt; omega) (by simp))
          have A4 := Lib.hid ha4; have B4 := Lib.hid (B3.out.trans hb4)
          have XR4 := Lib.hid (XR3.out.butt HPR.out hb4)
          have OW4 := Lib.hid (OW3.out.keep (Nat.le_refl _) (hb4.froms HLT2.out))
          clear ha4 hb4 hx4 hk4 hs4
          refine Lib.hid ?_
          have A4a := Lib.hid (A4.out.alloc (Obj.cells #[.int .i64 k4, .int .i64 a4, .string t4, .int .i64 n4, .slice o4 l4 c4] 25)); have B4a := Lib.hid (B4.out.alloc HRW.out (Obj.cells #[.int .i64 k4, .int .i64 a4, .string t4, .int .i64 n4, .slice o4 l4 c4] 25))
          have XR4a := Lib.hid (XR4.out.alloc (Obj.cells #[.int .i64 k4, .int .i64 a4, .string t4, .int .i64 n4, .slice o4 l4 c4] 25))
          have OW4a := Lib.hid (OW4.out.keep (Nat.le_refl _) (From.of_below ((Below.refl _ _).alloc (Nat.le_refl _) (Obj.cells #[.int .i64 k4, .int .i64 a4, .string t4, .int .i64 n4, .slice o4 l4 c4] 25))))
          have HZ := Lib.hid (HOFF.out.below ((Below.refl _ _).alloc (Nat.le_refl _) (Obj.cells #[.int .i64 k4, .int .i64 a4, .string t4, .int .i64 n4, .slice o4 l4 c4] 25)))
          have HL1 : Hid (xs.length ≤ 1200000) := Lib.hid (by have := HR.out.len; have := HRA.out; omega)
          have HB1 : Hid (w.heap.size + 1 ≤ (w4.alloc (Obj.cells #[.int .i64 k4, .int .i64 a4, .string t4, .int .i64 n4, .slice o4 l4 c4] 25)).heap.size) := Lib.hid (by have := XR4a.out.lt; omega)
          go_wp2_with (first | (at_builtin; refine wpList_append_tree rfl (.tmp 23) (.tmp 26) rfl (w.heap.size + 1) _ xs (by simp [Act.eval, Act.put]) OW4a.out HL1.out HB1.out w4.heap.size _ _ _ _ _ _ (by simp [Act.eval, Act.put]) HZ.out ⟨rfl, rfl, rfl, rfl, rfl⟩ (by go_cell) (by go_cell) (by go_cell) (by go_cell) (by go_cell) ?_; intro v9 ao9 cap9 w9 hv9 ho9 hg9; refine Hid.out ?_) | fail)
          subst hv9
          have hgl := grownBy_froms hg9 (fun b e => (OW4a.out.lo b e).1) HLT2.out HB1.out
          have hgr := At.grow HA0.out A4a.out B4a.out (Below.down hgl (Nat.le_succ _))
          have HNX : Hid (PgmAt R L w d st pa w9 s4 (xs ++ [.mk k4 a4 t4 n4 q4]) _) := Lib.hid ⟨hgr.1, hgr.2, ho9, XR4a.out.down hgl (Nat.lt_succ_self _), HLEN.out, fun ys s' ht => by have e := HR.out.go _ _ (pgm_proc HR.out.hat.fine HC0.out HC1.out HS4.out ht); rw [List.append_assoc]; exact e⟩
          clear hgl hgr ho9 hg9
          refine Lib.hid ?_
          go_wp2
          go_roundw
          case rel => exact ⟨s4, xs ++ [.mk k4 a4 t4 n4 q4], ao9, cap9, by rw [List.length_append]; rfl, HNX.out⟩
          case measure =>
            obtain ⟨l1, e1, -, e3⟩ := rem_less HTL.out HR.out.hat HTX.out
            have g1 := remW_ok (e1 ▸ HR.out.hat)
            have g2 := remW_le HNX.out.hat
            have g3 := stp_less (fun f => Less.proc) e3 (e1 ▸ HS4.out)
            rw [g1]
            omega
        | false =>
          rw [h2] at C2
          have HC0 := Lib.hid h0; have HC1 := Lib.hid h1; have HC2 := Lib.hid h2; clear h0 h1 h2
          have K0 := Lib.hid C0; have K1 := Lib.hid C1; have K2 := Lib.hid C2
          have A0 := Lib.hid hrel.hat; have B0 := Lib.hid hrel.hb; have OW := Lib.hid hrel.own; have XR0 := Lib.hid hrel.xr
          clear C0 C1 C2 hrel
          go_wp2_with (go_at_call 57; refine (K0.out _ A0.out).mono ?_; rintro e w1 ⟨rfl, ha1, hb1⟩; refine Hid.out ?_)
          have A1 := Lib.hid ha1; have B1 := Lib.hid (B0.out.trans hb1)
          have XR1 := Lib.hid (XR0.out.butt HPR.out hb1)
          have OW1 := Lib.hid (OW.out.keep (Nat.le_refl _) (hb1.froms HLT2.out))
          clear ha1 hb1
          refine Lib.hid ?_
          go_wp2_with (go_at_call 57; refine (K1.out _ A1.out).mono ?_; rintro e w2 ⟨rfl, ha2, hb2⟩; refine Hid.out ?_)
          have A2 := Lib.hid ha2; have B2 := Lib.hid (B1.out.trans hb2)
          have XR2 := Lib.hid (XR1.out.butt HPR.out hb2)
          have OW2 := Lib.hid (OW1.out.keep (Nat.le_refl _) (hb2.froms HLT2.out))
          clear ha2 hb2
          refine Lib.hid ?_
          go_wp2_with (go_at_call 57; refine (K2.out _ A2.out).mono ?_; rintro e w3 ⟨rfl, ha3, hb3⟩; refine Hid.out ?_)
          have A3 := Lib.hid ha3; have B3 := Lib.hid (B2.out.trans hb3)
          have XR3 := Lib.hid (XR2.out.butt HPR.out hb3)
          have OW3 := Lib.hid (OW2.out.keep (Nat.le_refl _) (hb3.froms HLT2.out))
          clear ha3 hb3
          refine Lib.hid ?_
          have KR := Lib.hid (ownT.kidsIn (l2 := w.heap.size) (ps := [w.heap.size]) OW3.out (Nat.le_succ _) (by simp))
          go_wp2_with (go_at_call 59; refine (pnode_any _ _ _ _ _ _ _).mono ?_; rintro e w4 ⟨rfl, hb4⟩; refine Hid.out ?_)
          have HBZ := Lib.hid hb4
          have hbx := Butt.of_below (R := R) A3.out.fix.lt hb4
          have ha4 : At R L w4 _ _ := ⟨A3.out.fix.butt hbx, A3.out.rs.below hb4⟩
          have TN := Lib.hid (synIn_mk.mpr ⟨_, rfl, KR.out.keep ⟨HBZ.out.size, fun k _ h => HBZ.out.block k h⟩ (fun _ h _ => h)⟩ : synIn (offs w.heap.size [w.heap.size]) w4 (.mk 0 pa ⟨#[]⟩ 0 xs) _)
          have hb4 := hbx; clear hbx
          have A4 := Lib.hid ha4; have B4 := Lib.hid (B3.out.trans hb4)
          have XR4 := Lib.hid (XR3.out.butt HPR.out hb4)
          clear ha4 hb4
          refine Lib.hid ?_
          have FT := Lib.hid (store5 HA0.out B4.out A4.out XR4.out (Nat.le_refl _) (.int .i64 0) (.int .i64 pa) (.string ⟨#[]⟩) (.int .i64 0) (.slice ao xs.length c) _ rfl)
          have GX := Lib.hid ((TN.out).kept (by simp) FT.out.2.2.2).at
          have zXR := XR4.out
          have yXR0 := zXR.c0
          have yXR1 := zXR.c1
          have yXR2 := zXR.c2
          have yXR3 := zXR.c3
          have yXR4 := zXR.c4
          have fXR0 := zXR.free 0
          have fXR1 := zXR.free 1
          have fXR2 := zXR.free 2
          have fXR3 := zXR.free 3
          have fXR4 := zXR.free 4
          clear zXR
          obtain ⟨r0, r1, r2, r3, r4⟩ := FT.out.1
          have GA := Lib.hid FT.out.2.1; have GB := Lib.hid FT.out.2.2.1
          clear FT
          go_wp2
          refine bodyPost_ret (by simp [results, Tryz.results30, go_sem, r0, r1, r2, r3, r4]; rfl) rfl ?_
          exact ⟨xs, _, _, rfl, GX.out, by have e := HR.out.go _ _ (pgm_nil HR.out.hat.fine HC0.out HC1.out HC2.out); rw [List.append_nil] at e; exact e, GA.out, GB.out⟩
end Go.Proofs.YtdibcllakkjegaaGreatDoor
