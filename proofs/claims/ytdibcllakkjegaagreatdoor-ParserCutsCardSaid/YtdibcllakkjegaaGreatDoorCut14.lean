import Derived.Test.YtdibcllakkjegaaGreatDoorCut13

set_option linter.unusedVariables false
/-
  parser: list, listBefore.
-/
set_option linter.unusedSimpArgs false
set_option linter.unusedVariables false
namespace Go.Proofs.YtdibcllakkjegaaGreatDoor
open Go Go.Proofs Go.RowKit Go.Sort
abbrev PL (R : Nat) (L : List Tk) (wnt : Want) (d : Nat) (st : RSt) (W : World) : Ending → World → Prop := fun e W' =>
  ∃ xs v st', e = .returned v ∧ ownT W.heap.size W' xs v ∧ xs.length ≤ st.rem + 1 ∧ Stp wnt d st xs st' ∧ At R L W' d st' ∧ Butt R W W'
def GL (f : Nat) (R : Nat) (L : List Tk) (args : Array Value) (wnt : Want) (d : Nat) (st : RSt) : Prop := ∀ W : World, At R L W d st → Calls Tryz.prog f args W (PL R L wnt d st W)
theorem At.rem {R d : Nat} {L : List Tk} {W : World} {st : RSt} (h : At R L W d st) : st.rem ≤ 100000 := by
  have hl := h.fix.toks.len
  obtain ⟨nx, a, er, h1, h2, h3⟩ := h.rs
  rcases h3 with ⟨-, -, rfl⟩ | ⟨-, -, rfl⟩
  · show (L.drop nx).length ≤ _
    rw [List.length_drop]
    omega
  · exact Nat.zero_le _
theorem At.grow {R d0 d : Nat} {L : List Tk} {st0 st : RSt} {w W W' : World} (h0 : At R L w d0 st0) (ha : At R L W d st) (hb : Butt R w W) (hg : Below w.heap.size W W') : At R L W' d st ∧ Butt R w W' := by
  have hR := h0.fix.lt
  have hbt : Butt R w W' := ⟨hg.os.trans hb.os, hg.tape.trans hb.tape, hg.output.trans hb.output, Nat.le_trans hb.size hg.size, fun k hk hr => (hg.block k hk).trans (hb.block k hk hr), fun j hj => (hg.cell (p := ⟨R, j, none⟩) hR).trans (hb.own j hj)⟩
  refine ⟨⟨h0.fix.butt hbt, ?_⟩, hbt⟩
  obtain ⟨nx0, a0, er0, -, g2, -⟩ := h0.rs
  obtain ⟨nx, a, er, h1, h2, h3⟩ := ha.rs
  exact ⟨nx, a, er, h1, g2.later hbt ((hg.cell (p := ⟨R, 1, none⟩) hR).trans h2.c1) ((hg.cell (p := ⟨R, 2, none⟩) hR).trans h2.c2) ((hg.cell (p := ⟨R, 3, none⟩) hR).trans h2.c3) ((hg.cell (p := ⟨R, 4, none⟩) hR).trans h2.c4) (fun j => (hg.frozen (p := ⟨R, j, none⟩) hR).trans (h2.free j)), h3⟩
theorem ownT.one {lo : Nat} {W : World} {x : Syn} {v0 v1 v2 v3 v4 : Value} (hx : synAt lo W x (.agg #[v0, v1, v2, v3, v4])) (hl : lo ≤ W.heap.size) :
    ownT lo (W.alloc (Obj.cells #[v0, v1, v2, v3, v4] 25)) [x] (.slice (some ⟨W.heap.size, 0, none⟩) 1 1) := by
  refine ⟨[v0, v1, v2, v3, v4], ⟨rfl, .inr ⟨W.heap.size, 1, #[v0, v1, v2, v3, v4], rfl, hl, ?_, Nat.le_refl _, by decide, rfl, rfl⟩⟩, ?_⟩
  · show (W.heap.push _)[W.heap.size]? = _
    exact Array.getElem?_push_size
  · have hb := (Below.refl W.heap.size W).alloc (Nat.le_refl _) (Obj.cells #[v0, v1, v2, v3, v4] 25)
    exact flatIn.one (synIn.keep ⟨hb.size, fun k _ h => hb.block k h⟩ (fun k hk h => ⟨hk, fun e => by
      have : W.heap.size = k := by cases e; rfl
      omega⟩) x _ (synIn_at x _ |>.mpr hx))
theorem ownT.off {lo l2 : Nat} {W W' : World} {xs : List Syn} {v u : Value} {x : Syn} (h : ownT lo W xs v) (hl : W.heap.size ≤ l2) (hx : synAt l2 W' x u) (hlo : lo ≤ W.heap.size) : synIn (offRow lo v) W' x u :=
  synIn.keep ⟨Nat.le_refl _, fun _ _ _ => rfl⟩ (fun k hk _ => ⟨by omega, fun e => by have := (h.lo k e).2; omega⟩) x u (synIn_at x u |>.mpr hx)
theorem synIn.below {A : Nat → Prop} {W W' : World} {x : Syn} {u : Value} (h : synIn A W x u) (hb : Below W.heap.size W W') : synIn A W' x u := synIn.keep ⟨hb.size, fun k _ h => hb.block k h⟩ (fun _ h _ => h) x u h
def comma : ByteArray := ⟨#[44]⟩
def LTail (L : List Tk) (w : Want) (d : Nat) (s : RSt) (ys : List Syn) (s' : RSt) : Prop := (tIs L s comma = false ∧ ys = [] ∧ s' = s) ∨ (tIs L s comma = true ∧ Stp (.list w) d (takeS s) ys s')
theorem list_cons {L : List Tk} (hL : TkL L) {w : Want} {d : Nat} {s s2 s' : RSt} {y : Syn} {ys : List Syn} (h : Stp w d s [y] s2) (ht : LTail L w d s2 ys s') : Stp (.list w) d s (y :: ys) s' := by
  cases s with
  | bad a e =>
    rw [show s2 = .bad a e from h] at ht
    rcases ht with ⟨-, -, h⟩ | ⟨h, -⟩
    · exact h
    · exact absurd ((tIs_bad hL (s := [44]) (by decide)).symm.trans h) (by decide)
  | ok l =>
    rcases elS h with ⟨l1, rfl, h0, h1, N, hN⟩ | ⟨a, e, he, rfl, N, hN⟩
    · rcases ht with ⟨hc, rfl, rfl⟩ | ⟨hc, ht⟩
      · have hc := (tIs_ok L l1 [44]).symm.trans hc
        exact st_go h0 h1 N fun f hf => by rw [pRead, hN f hf]; simp [hc, bind, Except.bind, pure, Except.pure]
      · have hc := (tIs_ok L l1 [44]).symm.trans hc
        have hl := pTl_len l1
        rcases elS ht with ⟨l2, rfl, g0, g1, M, hM⟩ | ⟨a, e, he, rfl, M, hM⟩
        · exact st_go g0 (by omega) (max N M) fun f hf => by rw [pRead, hN f (by omega)]; simp [hc, hM f (by omega), bind, Except.bind, pure, Except.pure]
        · exact st_err he (max N M) fun f hf => by rw [pRead, hN f (by omega)]; simp [hc, hM f (by omega), bind, Except.bind, pure, Except.pure]
    · rcases ht with ⟨-, -, rfl⟩ | ⟨h, -⟩
      · exact st_err he N fun f hf => by rw [pRead, hN f (by omega)]; rfl
      · exact absurd ((tIs_bad hL (s := [44]) (by decide)).symm.trans h) (by decide)
theorem comma_text {L : List Tk} {s : RSt} (h : tIs L s comma = true) : (cur L s).t ≠ ⟨#[]⟩ := by
  intro e
  have h2 := (tIs_eq L s [44]).symm.trans h
  rw [e] at h2
  exact absurd h2 (by decide)
structure LstAt (R : Nat) (L : List Tk) (w : World) (d : Nat) (st : RSt) (wnt : Want) (wr : World) (s : RSt) (xs : List Syn) (v : Value) : Prop where
  hat : At R L wr d s
  hb : Butt R w wr
  own : ownT w.heap.size wr xs v
  len : xs.length + s.rem ≤ st.rem + 1
  srem : s.rem ≤ st.rem
  go : ∀ ys s', LTail L wnt d s ys s' → Stp (.list wnt) d st (xs ++ ys) s'
set_option maxRecDepth 20000 in
set_option maxHeartbeats 1000000 in
theorem plist_place {R : Nat} {L : List Tk} {d : Nat} {st : RSt} {w : World} (h : At R L w d st) (K : ∀ s : RSt, s.rem ≤ st.rem → GT 146 R L #[.pointer (some ⟨R, 0, none⟩)] .place d s) :
    Calls Tryz.prog 96 #[.pointer (some ⟨R, 0, none⟩), .func (.func 146) #[.pointer (some ⟨R, 0, none⟩)] #[]] w (PL R L (.list .place) d st w) := by
  have HTL := Lib.hid h.fix.toks
  have KL := Lib.hid K
  clear K
  have HA0 := Lib.hid h
  have HLT := Lib.hid h.fix.lt; have HRW := Lib.hid h.fix.lt
  have A0 := Lib.hid h; have B0 := Lib.hid (Butt.refl R w)
  clear h 
  go_enter Tryz.func96, Tryz.ntmps96
  go_wp2_with (go_at_call 146; refine (KL.out st (Nat.le_refl _) _ A0.out).mono ?_; rintro e w1 ⟨x1, v1, s1, rfl, hx1, hs1, ha1, hb1⟩; refine Hid.out ?_)
  obtain ⟨k1, a1, t1, n1, o1, l1, c1, q1, rfl, rfl, hk1⟩ := hx1.shape
  have HS1 := Lib.hid hs1
  have TR1 := Lib.hid (synIn.of (ps := []) hx1 (Nat.le_trans (Nat.le_refl _) B0.out.size) (by simp))
  have A1 := Lib.hid ha1; have B1 := Lib.hid (B0.out.trans hb1)
  clear ha1 hb1 hx1 hk1 hs1
  refine Lib.hid ?_
  have OW := Lib.hid (ownT.one TR1.out.at B1.out.size)
  have HR0 := Lib.hid (Run.rem HS1.out); have HRA := Lib.hid A0.out.rem
  have A1a := Lib.hid (A1.out.alloc (Obj.cells #[.int .i64 k1, .int .i64 a1, .string t1, .int .i64 n1, .slice o1 l1 c1] 25)); have B1a := Lib.hid (B1.out.alloc HRW.out (Obj.cells #[.int .i64 k1, .int .i64 a1, .string t1, .int .i64 n1, .slice o1 l1 c1] 25))
  have TR11a := Lib.hid (TR1.out.butt HLT.out (Butt.of_below A1.out.fix.lt ((Below.refl _ _).alloc (Nat.le_refl _) (Obj.cells #[.int .i64 k1, .int .i64 a1, .string t1, .int .i64 n1, .slice o1 l1 c1] 25))))
  go_wp2_with fail
  have HLP : Hid (LstAt R L w d st .place _ s1 _ _) := Lib.hid ⟨A1a.out, B1a.out, OW.out, by have := HR0.out; simp only [List.length_cons, List.length_nil]; omega, HR0.out, fun ys s' ht => list_cons HTL.out HS1.out ht⟩
  go_loopw [5] (fun v wr => ∃ (s : RSt) (xs : List Syn) (ao : Option Addr) (c : Nat), v = .slice ao xs.length c ∧ LstAt R L w d st .place wr s xs v) (fun _ wr => remW R L wr)
  case atStart => exact ⟨s1, _, _, _, rfl, HLP.out⟩
  case round =>
    obtain ⟨s, xs, ao, c, rfl, hrel⟩ := hrel
    have CO := saccept hrel.hat comma
    unfold comma at CO
    cases hb : tIs L s comma with
    | true =>
      have hb' := hb; unfold comma at hb'
      rw [hb'] at CO
      simp only [if_true] at CO
      have KO := Lib.hid CO; have HBB := Lib.hid hb; have HR := Lib.hid hrel; clear CO hb hb'
      have HSR : Hid (s.rem ≤ st.rem) := Lib.hid HR.out.srem
      have A0 := Lib.hid hrel.hat; have B0 := Lib.hid hrel.hb; have OW := Lib.hid hrel.own
      clear hrel
      go_wp2_with (go_at_call 84; refine (KO.out).mono ?_; rintro e w1 ⟨rfl, ha1, hb1⟩; refine Hid.out ?_)
      have A1 := Lib.hid ha1; have B1 := Lib.hid (B0.out.trans hb1)
      have OW1 := Lib.hid (OW.out.keep (Nat.le_refl _) (hb1.froms HLT.out))
      clear ha1 hb1
      refine Lib.hid ?_
      go_wp2_with (go_at_call 146; refine (KL.out _ (Nat.le_trans (takeS_rem _) HSR.out) _ A1.out).mono ?_; rintro e w2 ⟨x2, v2, s2, rfl, hx2, hs2, ha2, hb2⟩; refine Hid.out ?_)
      obtain ⟨k2, a2, t2, n2, o2, l2, c2, q2, rfl, rfl, hk2⟩ := hx2.shape
      have HS2 := Lib.hid hs2
      have HOFF := Lib.hid (OW1.out.off (Nat.le_refl _) hx2 B1.out.size)
      have HLEN : Hid ((xs ++ [Syn.mk k2 a2 t2 n2 q2]).length + s2.rem ≤ st.rem + 1) := Lib.hid (by
        obtain ⟨l1, e1, e2, e3⟩ := rem_less HTL.out HR.out.hat (comma_text HBB.out)
        have g1 := HR.out.len
        have g2 := Run.rem HS2.out
        rw [e1, show (RSt.ok l1).rem = l1.length from rfl] at g1
        rw [List.length_append, show [Syn.mk k2 a2 t2 n2 q2].length = 1 from rfl]
        omega)
      have TR2 := Lib.hid (synIn.of (ps := []) hx2 (Nat.le_trans (Nat.le_refl _) B1.out.size) (by simp))
      have A2 := Lib.hid ha2; have B2 := Lib.hid (B1.out.trans hb2)
      have OW2 := Lib.hid (OW1.out.keep (Nat.le_refl _) (hb2.froms HLT.out))
      clear ha2 hb2 hx2 hk2 hs2
      refine Lib.hid ?_
      have A2a := Lib.hid (A2.out.alloc (Obj.cells #[.int .i64 k2, .int .i64 a2, .string t2, .int .i64 n2, .slice o2 l2 c2] 25)); have B2a := Lib.hid (B2.out.alloc HRW.out (Obj.cells #[.int .i64 k2, .int .i64 a2, .string t2, .int .i64 n2, .slice o2 l2 c2] 25))
      have TR22a := Lib.hid (TR2.out.butt HLT.out (Butt.of_below A2.out.fix.lt ((Below.refl _ _).alloc (Nat.le_refl _) (Obj.cells #[.int .i64 k2, .int .i64 a2, .string t2, .int .i64 n2, .slice o2 l2 c2] 25))))
      have OW2a := Lib.hid (OW2.out.keep (Nat.le_refl _) (From.of_below ((Below.refl _ _).alloc (Nat.le_refl _) (Obj.cells #[.int .i64 k2, .int .i64 a2, .string t2, .int .i64 n2, .slice o2 l2 c2] 25))))
      have HZ := Lib.hid (HOFF.out.below ((Below.refl _ _).alloc (Nat.le_refl _) (Obj.cells #[.int .i64 k2, .int .i64 a2, .string t2, .int .i64 n2, .slice o2 l2 c2] 25)))
      have HL1 : Hid (xs.length ≤ 1200000) := Lib.hid (by have := HR.out.len; have := HRA.out; omega)
      have HB1 : Hid (w.heap.size ≤ (w2.alloc (Obj.cells #[.int .i64 k2, .int .i64 a2, .string t2, .int .i64 n2, .slice o2 l2 c2] 25)).heap.size) := Lib.hid B2a.out.size
      go_wp2_with (first | (at_builtin; refine wpList_append_tree rfl (.tmp 11) (.tmp 14) rfl w.heap.size _ xs (by simp [Act.eval, Act.put]) OW2a.out HL1.out HB1.out w2.heap.size _ _ _ _ _ _ (by simp [Act.eval, Act.put]) HZ.out ⟨rfl, rfl, rfl, rfl, rfl⟩ (by go_cell) (by go_cell) (by go_cell) (by go_cell) (by go_cell) ?_; intro v9 ao9 cap9 w9 hv9 ho9 hg9; refine Hid.out ?_) | fail)
      subst hv9
      have hgr := At.grow HA0.out A2a.out B2a.out (grownBy_froms hg9 (fun b e => (OW2a.out.lo b e).1) HLT.out HB1.out)
      have HSR2 : Hid (s2.rem ≤ st.rem) := Lib.hid (Nat.le_trans (Run.rem HS2.out) (Nat.le_trans (takeS_rem _) HSR.out))
      have HNX : Hid (LstAt R L w d st .place w9 s2 (xs ++ [.mk k2 a2 t2 n2 q2]) _) := Lib.hid ⟨hgr.1, hgr.2, ho9, HLEN.out, HSR2.out, fun ys s' ht => by have e := HR.out.go _ _ (.inr ⟨HBB.out, list_cons HTL.out HS2.out ht⟩); rw [List.append_assoc]; exact e⟩
      clear hgr ho9 hg9
      refine Lib.hid ?_
      go_wp2
      go_roundw
      case rel => exact ⟨s2, xs ++ [.mk k2 a2 t2 n2 q2], ao9, cap9, by rw [List.length_append]; rfl, HNX.out⟩
      case measure =>
        obtain ⟨l1, e1, e2, e3⟩ := rem_less HTL.out HR.out.hat (comma_text HBB.out)
        have g1 := remW_ok (e1 ▸ HR.out.hat)
        have g2 := remW_le HNX.out.hat
        have g3 := Run.rem HS2.out
        rw [g1]
        omega
    | false =>
      have hb' := hb; unfold comma at hb'
      rw [hb'] at CO
      simp only [Bool.false_eq_true, if_false] at CO
      have KO := Lib.hid CO; have HBB := Lib.hid hb; have HR := Lib.hid hrel; clear CO hb hb'
      have A0 := Lib.hid hrel.hat; have B0 := Lib.hid hrel.hb; have OW := Lib.hid hrel.own
      clear hrel
      go_wp2_with (go_at_call 84; refine (KO.out).mono ?_; rintro e w1 ⟨rfl, ha1, hb1⟩; refine Hid.out ?_)
      have A1 := Lib.hid ha1; have B1 := Lib.hid (B0.out.trans hb1)
      have OW1 := Lib.hid (OW.out.keep (Nat.le_refl _) (hb1.froms HLT.out))
      clear ha1 hb1
      refine Lib.hid ?_
      go_wp2
      go_ret
      exact ⟨xs, _, _, rfl, OW1.out, by have := HR.out.len; omega, by have e := HR.out.go _ _ (.inl ⟨HBB.out, rfl, rfl⟩); rw [List.append_nil] at e; exact e, A1.out, B1.out⟩
set_option maxRecDepth 20000 in
set_option maxHeartbeats 1000000 in
theorem plist_bare {R : Nat} {L : List Tk} {d : Nat} {st : RSt} {w : World} (h : At R L w d st) (K : ∀ s : RSt, s.rem ≤ st.rem → GT 97 R L #[.pointer (some ⟨R, 0, none⟩)] .bare d s) :
    Calls Tryz.prog 96 #[.pointer (some ⟨R, 0, none⟩), .func (.func 97) #[.pointer (some ⟨R, 0, none⟩)] #[]] w (PL R L (.list .bare) d st w) := by
  have HTL := Lib.hid h.fix.toks
  have KL := Lib.hid K
  clear K
  have HA0 := Lib.hid h
  have HLT := Lib.hid h.fix.lt; have HRW := Lib.hid h.fix.lt
  have A0 := Lib.hid h; have B0 := Lib.hid (Butt.refl R w)
  clear h 
  go_enter Tryz.func96, Tryz.ntmps96
  go_wp2_with (go_at_call 97; refine (KL.out st (Nat.le_refl _) _ A0.out).mono ?_; rintro e w1 ⟨x1, v1, s1, rfl, hx1, hs1, ha1, hb1⟩; refine Hid.out ?_)
  obtain ⟨k1, a1, t1, n1, o1, l1, c1, q1, rfl, rfl, hk1⟩ := hx1.shape
  have HS1 := Lib.hid hs1
  have TR1 := Lib.hid (synIn.of (ps := []) hx1 (Nat.le_trans (Nat.le_refl _) B0.out.size) (by simp))
  have A1 := Lib.hid ha1; have B1 := Lib.hid (B0.out.trans hb1)
  clear ha1 hb1 hx1 hk1 hs1
  refine Lib.hid ?_
  have OW := Lib.hid (ownT.one TR1.out.at B1.out.size)
  have HR0 := Lib.hid (Run.rem HS1.out); have HRA := Lib.hid A0.out.rem
  have A1a := Lib.hid (A1.out.alloc (Obj.cells #[.int .i64 k1, .int .i64 a1, .string t1, .int .i64 n1, .slice o1 l1 c1] 25)); have B1a := Lib.hid (B1.out.alloc HRW.out (Obj.cells #[.int .i64 k1, .int .i64 a1, .string t1, .int .i64 n1, .slice o1 l1 c1] 25))
  have TR11a := Lib.hid (TR1.out.butt HLT.out (Butt.of_below A1.out.fix.lt ((Below.refl _ _).alloc (Nat.le_refl _) (Obj.cells #[.int .i64 k1, .int .i64 a1, .string t1, .int .i64 n1, .slice o1 l1 c1] 25))))
  go_wp2_with fail
  have HLP : Hid (LstAt R L w d st .bare _ s1 _ _) := Lib.hid ⟨A1a.out, B1a.out, OW.out, by have := HR0.out; simp only [List.length_cons, List.length_nil]; omega, HR0.out, fun ys s' ht => list_cons HTL.out HS1.out ht⟩
  go_loopw [5] (fun v wr => ∃ (s : RSt) (xs : List Syn) (ao : Option Addr) (c : Nat), v = .slice ao xs.length c ∧ LstAt R L w d st .bare wr s xs v) (fun _ wr => remW R L wr)
  case atStart => exact ⟨s1, _, _, _, rfl, HLP.out⟩
  case round =>
    obtain ⟨s, xs, ao, c, rfl, hrel⟩ := hrel
    have CO := saccept hrel.hat comma
    unfold comma at CO
    cases hb : tIs L s comma with
    | true =>
      have hb' := hb; unfold comma at hb'
      rw [hb'] at CO
      simp only [if_true] at CO
      have KO := Lib.hid CO; have HBB := Lib.hid hb; have HR := Lib.hid hrel; clear CO hb hb'
      have HSR : Hid (s.rem ≤ st.rem) := Lib.hid HR.out.srem
      have A0 := Lib.hid hrel.hat; have B0 := Lib.hid hrel.hb; have OW := Lib.hid hrel.own
      clear hrel
      go_wp2_with (go_at_call 84; refine (KO.out).mono ?_; rintro e w1 ⟨rfl, ha1, hb1⟩; refine Hid.out ?_)
      have A1 := Lib.hid ha1; have B1 := Lib.hid (B0.out.trans hb1)
      have OW1 := Lib.hid (OW.out.keep (Nat.le_refl _) (hb1.froms HLT.out))
      clear ha1 hb1
      refine Lib.hid ?_
      go_wp2_with (go_at_call 97; refine (KL.out _ (Nat.le_trans (takeS_rem _) HSR.out) _ A1.out).mono ?_; rintro e w2 ⟨x2, v2, s2, rfl, hx2, hs2, ha2, hb2⟩; refine Hid.out ?_)
      obtain ⟨k2, a2, t2, n2, o2, l2, c2, q2, rfl, rfl, hk2⟩ := hx2.shape
      have HS2 := Lib.hid hs2
      have HOFF := Lib.hid (OW1.out.off (Nat.le_refl _) hx2 B1.out.size)
      have HLEN : Hid ((xs ++ [Syn.mk k2 a2 t2 n2 q2]).length + s2.rem ≤ st.rem + 1) := Lib.hid (by
        obtain ⟨l1, e1, e2, e3⟩ := rem_less HTL.out HR.out.hat (comma_text HBB.out)
        have g1 := HR.out.len
        have g2 := Run.rem HS2.out
        rw [e1, show (RSt.ok l1).rem = l1.length from rfl] at g1
        rw [List.length_append, show [Syn.mk k2 a2 t2 n2 q2].length = 1 from rfl]
        omega)
      have TR2 := Lib.hid (synIn.of (ps := []) hx2 (Nat.le_trans (Nat.le_refl _) B1.out.size) (by simp))
      have A2 := Lib.hid ha2; have B2 := Lib.hid (B1.out.trans hb2)
      have OW2 := Lib.hid (OW1.out.keep (Nat.le_refl _) (hb2.froms HLT.out))
      clear ha2 hb2 hx2 hk2 hs2
      refine Lib.hid ?_
      have A2a := Lib.hid (A2.out.alloc (Obj.cells #[.int .i64 k2, .int .i64 a2, .string t2, .int .i64 n2, .slice o2 l2 c2] 25)); have B2a := Lib.hid (B2.out.alloc HRW.out (Obj.cells #[.int .i64 k2, .int .i64 a2, .string t2, .int .i64 n2, .slice o2 l2 c2] 25))
      have TR22a := Lib.hid (TR2.out.butt HLT.out (Butt.of_below A2.out.fix.lt ((Below.refl _ _).alloc (Nat.le_refl _) (Obj.cells #[.int .i64 k2, .int .i64 a2, .string t2, .int .i64 n2, .slice o2 l2 c2] 25))))
      have OW2a := Lib.hid (OW2.out.keep (Nat.le_refl _) (From.of_below ((Below.refl _ _).alloc (Nat.le_refl _) (Obj.cells #[.int .i64 k2, .int .i64 a2, .string t2, .int .i64 n2, .slice o2 l2 c2] 25))))
      have HZ := Lib.hid (HOFF.out.below ((Below.refl _ _).alloc (Nat.le_refl _) (Obj.cells #[.int .i64 k2, .int .i64 a2, .string t2, .int .i64 n2, .slice o2 l2 c2] 25)))
      have HL1 : Hid (xs.length ≤ 1200000) := Lib.hid (by have := HR.out.len; have := HRA.out; omega)
      have HB1 : Hid (w.heap.size ≤ (w2.alloc (Obj.cells #[.int .i64 k2, .int .i64 a2, .string t2, .int .i64 n2, .slice o2 l2 c2] 25)).heap.size) := Lib.hid B2a.out.size
      go_wp2_with (first | (at_builtin; refine wpList_append_tree rfl (.tmp 11) (.tmp 14) rfl w.heap.size _ xs (by simp [Act.eval, Act.put]) OW2a.out HL1.out HB1.out w2.heap.size _ _ _ _ _ _ (by simp [Act.eval, Act.put]) HZ.out ⟨rfl, rfl, rfl, rfl, rfl⟩ (by go_cell) (by go_cell) (by go_cell) (by go_cell) (by go_cell) ?_; intro v9 ao9 cap9 w9 hv9 ho9 hg9; refine Hid.out ?_) | fail)
      subst hv9
      have hgr := At.grow HA0.out A2a.out B2a.out (grownBy_froms hg9 (fun b e => (OW2a.out.lo b e).1) HLT.out HB1.out)
      have HSR2 : Hid (s2.rem ≤ st.rem) := Lib.hid (Nat.le_trans (Run.rem HS2.out) (Nat.le_trans (takeS_rem _) HSR.out))
      have HNX : Hid (LstAt R L w d st .bare w9 s2 (xs ++ [.mk k2 a2 t2 n2 q2]) _) := Lib.hid ⟨hgr.1, hgr.2, ho9, HLEN.out, HSR2.out, fun ys s' ht => by have e := HR.out.go _ _ (.inr ⟨HBB.out, list_cons HTL.out HS2.out ht⟩); rw [List.append_assoc]; exact e⟩
      clear hgr ho9 hg9
      refine Lib.hid ?_
      go_wp2
      go_roundw
      case rel => exact ⟨s2, xs ++ [.mk k2 a2 t2 n2 q2], ao9, cap9, by rw [List.length_append]; rfl, HNX.out⟩
      case measure =>
        obtain ⟨l1, e1, e2, e3⟩ := rem_less HTL.out HR.out.hat (comma_text HBB.out)
        have g1 := remW_ok (e1 ▸ HR.out.hat)
        have g2 := remW_le HNX.out.hat
        have g3 := Run.rem HS2.out
        rw [g1]
        omega
    | false =>
      have hb' := hb; unfold comma at hb'
      rw [hb'] at CO
      simp only [Bool.false_eq_true, if_false] at CO
      have KO := Lib.hid CO; have HBB := Lib.hid hb; have HR := Lib.hid hrel; clear CO hb hb'
      have A0 := Lib.hid hrel.hat; have B0 := Lib.hid hrel.hb; have OW := Lib.hid hrel.own
      clear hrel
      go_wp2_with (go_at_call 84; refine (KO.out).mono ?_; rintro e w1 ⟨rfl, ha1, hb1⟩; refine Hid.out ?_)
      have A1 := Lib.hid ha1; have B1 := Lib.hid (B0.out.trans hb1)
      have OW1 := Lib.hid (OW.out.keep (Nat.le_refl _) (hb1.froms HLT.out))
      clear ha1 hb1
      refine Lib.hid ?_
      go_wp2
      go_ret
      exact ⟨xs, _, _, rfl, OW1.out, by have := HR.out.len; omega, by have e := HR.out.go _ _ (.inl ⟨HBB.out, rfl, rfl⟩); rw [List.append_nil] at e; exact e, A1.out, B1.out⟩
set_option maxRecDepth 20000 in
set_option maxHeartbeats 1000000 in
theorem plist_parameter {R : Nat} {L : List Tk} {d : Nat} {st : RSt} {w : World} (h : At R L w d st) (K : ∀ s : RSt, s.rem ≤ st.rem → GT 113 R L #[.pointer (some ⟨R, 0, none⟩)] .param d s) :
    Calls Tryz.prog 96 #[.pointer (some ⟨R, 0, none⟩), .func (.func 113) #[.pointer (some ⟨R, 0, none⟩)] #[]] w (PL R L (.list .param) d st w) := by
  have HTL := Lib.hid h.fix.toks
  have KL := Lib.hid K
  clear K
  have HA0 := Lib.hid h
  have HLT := Lib.hid h.fix.lt; have HRW := Lib.hid h.fix.lt
  have A0 := Lib.hid h; have B0 := Lib.hid (Butt.refl R w)
  clear h 
  go_enter Tryz.func96, Tryz.ntmps96
  go_wp2_with (go_at_call 113; refine (KL.out st (Nat.le_refl _) _ A0.out).mono ?_; rintro e w1 ⟨x1, v1, s1, rfl, hx1, hs1, ha1, hb1⟩; refine Hid.out ?_)
  obtain ⟨k1, a1, t1, n1, o1, l1, c1, q1, rfl, rfl, hk1⟩ := hx1.shape
  have HS1 := Lib.hid hs1
  have TR1 := Lib.hid (synIn.of (ps := []) hx1 (Nat.le_trans (Nat.le_refl _) B0.out.size) (by simp))
  have A1 := Lib.hid ha1; have B1 := Lib.hid (B0.out.trans hb1)
  clear ha1 hb1 hx1 hk1 hs1
  refine Lib.hid ?_
  have OW := Lib.hid (ownT.one TR1.out.at B1.out.size)
  have HR0 := Lib.hid (Run.rem HS1.out); have HRA := Lib.hid A0.out.rem
  have A1a := Lib.hid (A1.out.alloc (Obj.cells #[.int .i64 k1, .int .i64 a1, .string t1, .int .i64 n1, .slice o1 l1 c1] 25)); have B1a := Lib.hid (B1.out.alloc HRW.out (Obj.cells #[.int .i64 k1, .int .i64 a1, .string t1, .int .i64 n1, .slice o1 l1 c1] 25))
  have TR11a := Lib.hid (TR1.out.butt HLT.out (Butt.of_below A1.out.fix.lt ((Below.refl _ _).alloc (Nat.le_refl _) (Obj.cells #[.int .i64 k1, .int .i64 a1, .string t1, .int .i64 n1, .slice o1 l1 c1] 25))))
  go_wp2_with fail
  have HLP : Hid (LstAt R L w d st .param _ s1 _ _) := Lib.hid ⟨A1a.out, B1a.out, OW.out, by have := HR0.out; simp only [List.length_cons, List.length_nil]; omega, HR0.out, fun ys s' ht => list_cons HTL.out HS1.out ht⟩
  go_loopw [5] (fun v wr => ∃ (s : RSt) (xs : List Syn) (ao : Option Addr) (c : Nat), v = .slice ao xs.length c ∧ LstAt R L w d st .param wr s xs v) (fun _ wr => remW R L wr)
  case atStart => exact ⟨s1, _, _, _, rfl, HLP.out⟩
  case round =>
    obtain ⟨s, xs, ao, c, rfl, hrel⟩ := hrel
    have CO := saccept hrel.hat comma
    unfold comma at CO
    cases hb : tIs L s comma with
    | true =>
      have hb' := hb; unfold comma at hb'
      rw [hb'] at CO
      simp only [if_true] at CO
      have KO := Lib.hid CO; have HBB := Lib.hid hb; have HR := Lib.hid hrel; clear CO hb hb'
      have HSR : Hid (s.rem ≤ st.rem) := Lib.hid HR.out.srem
      have A0 := Lib.hid hrel.hat; have B0 := Lib.hid hrel.hb; have OW := Lib.hid hrel.own
      clear hrel
      go_wp2_with (go_at_call 84; refine (KO.out).mono ?_; rintro e w1 ⟨rfl, ha1, hb1⟩; refine Hid.out ?_)
      have A1 := Lib.hid ha1; have B1 := Lib.hid (B0.out.trans hb1)
      have OW1 := Lib.hid (OW.out.keep (Nat.le_refl _) (hb1.froms HLT.out))
      clear ha1 hb1
      refine Lib.hid ?_
      go_wp2_with (go_at_call 113; refine (KL.out _ (Nat.le_trans (takeS_rem _) HSR.out) _ A1.out).mono ?_; rintro e w2 ⟨x2, v2, s2, rfl, hx2, hs2, ha2, hb2⟩; refine Hid.out ?_)
      obtain ⟨k2, a2, t2, n2, o2, l2, c2, q2, rfl, rfl, hk2⟩ := hx2.shape
      have HS2 := Lib.hid hs2
      have HOFF := Lib.hid (OW1.out.off (Nat.le_refl _) hx2 B1.out.size)
      have HLEN : Hid ((xs ++ [Syn.mk k2 a2 t2 n2 q2]).length + s2.rem ≤ st.rem + 1) := Lib.hid (by
        obtain ⟨l1, e1, e2, e3⟩ := rem_less HTL.out HR.out.hat (comma_text HBB.out)
        have g1 := HR.out.len
        have g2 := Run.rem HS2.out
        rw [e1, show (RSt.ok l1).rem = l1.length from rfl] at g1
        rw [List.length_append, show [Syn.mk k2 a2 t2 n2 q2].length = 1 from rfl]
        omega)
      have TR2 := Lib.hid (synIn.of (ps := []) hx2 (Nat.le_trans (Nat.le_refl _) B1.out.size) (by simp))
      have A2 := Lib.hid ha2; have B2 := Lib.hid (B1.out.trans hb2)
      have OW2 := Lib.hid (OW1.out.keep (Nat.le_refl _) (hb2.froms HLT.out))
      clear ha2 hb2 hx2 hk2 hs2
      refine Lib.hid ?_
      have A2a := Lib.hid (A2.out.alloc (Obj.cells #[.int .i64 k2, .int .i64 a2, .string t2, .int .i64 n2, .slice o2 l2 c2] 25)); have B2a := Lib.hid (B2.out.alloc HRW.out (Obj.cells #[.int .i64 k2, .int .i64 a2, .string t2, .int .i64 n2, .slice o2 l2 c2] 25))
      have TR22a := Lib.hid (TR2.out.butt HLT.out (Butt.of_below A2.out.fix.lt ((Below.refl _ _).alloc (Nat.le_refl _) (Obj.cells #[.int .i64 k2, .int .i64 a2, .string t2, .int .i64 n2, .slice o2 l2 c2] 25))))
      have OW2a := Lib.hid (OW2.out.keep (Nat.le_refl _) (From.of_below ((Below.refl _ _).alloc (Nat.le_refl _) (Obj.cells #[.int .i64 k2, .int .i64 a2, .string t2, .int .i64 n2, .slice o2 l2 c2] 25))))
      have HZ := Lib.hid (HOFF.out.below ((Below.refl _ _).alloc (Nat.le_refl _) (Obj.cells #[.int .i64 k2, .int .i64 a2, .string t2, .int .i64 n2, .slice o2 l2 c2] 25)))
      have HL1 : Hid (xs.length ≤ 1200000) := Lib.hid (by have := HR.out.len; have := HRA.out; omega)
      have HB1 : Hid (w.heap.size ≤ (w2.alloc (Obj.cells #[.int .i64 k2, .int .i64 a2, .string t2, .int .i64 n2, .slice o2 l2 c2] 25)).heap.size) := Lib.hid B2a.out.size
      go_wp2_with (first | (at_builtin; refine wpList_append_tree rfl (.tmp 11) (.tmp 14) rfl w.heap.size _ xs (by simp [Act.eval, Act.put]) OW2a.out HL1.out HB1.out w2.heap.size _ _ _ _ _ _ (by simp [Act.eval, Act.put]) HZ.out ⟨rfl, rfl, rfl, rfl, rfl⟩ (by go_cell) (by go_cell) (by go_cell) (by go_cell) (by go_cell) ?_; intro v9 ao9 cap9 w9 hv9 ho9 hg9; refine Hid.out ?_) | fail)
      subst hv9
      have hgr := At.grow HA0.out A2a.out B2a.out (grownBy_froms hg9 (fun b e => (OW2a.out.lo b e).1) HLT.out HB1.out)
      have HSR2 : Hid (s2.rem ≤ st.rem) := Lib.hid (Nat.le_trans (Run.rem HS2.out) (Nat.le_trans (takeS_rem _) HSR.out))
      have HNX : Hid (LstAt R L w d st .param w9 s2 (xs ++ [.mk k2 a2 t2 n2 q2]) _) := Lib.hid ⟨hgr.1, hgr.2, ho9, HLEN.out, HSR2.out, fun ys s' ht => by have e := HR.out.go _ _ (.inr ⟨HBB.out, list_cons HTL.out HS2.out ht⟩); rw [List.append_assoc]; exact e⟩
      clear hgr ho9 hg9
      refine Lib.hid ?_
      go_wp2
      go_roundw
      case rel => exact ⟨s2, xs ++ [.mk k2 a2 t2 n2 q2], ao9, cap9, by rw [List.length_append]; rfl, HNX.out⟩
      case measure =>
        obtain ⟨l1, e1, e2, e3⟩ := rem_less HTL.out HR.out.hat (comma_text HBB.out)
        have g1 := remW_ok (e1 ▸ HR.out.hat)
        have g2 := remW_le HNX.out.hat
        have g3 := Run.rem HS2.out
        rw [g1]
        omega
    | false =>
      have hb' := hb; unfold comma at hb'
      rw [hb'] at CO
      simp only [Bool.false_eq_true, if_false] at CO
      have KO := Lib.hid CO; have HBB := Lib.hid hb; have HR := Lib.hid hrel; clear CO hb hb'
      have A0 := Lib.hid hrel.hat; have B0 := Lib.hid hrel.hb; have OW := Lib.hid hrel.own
      clear hrel
      go_wp2_with (go_at_call 84; refine (KO.out).mono ?_; rintro e w1 ⟨rfl, ha1, hb1⟩; refine Hid.out ?_)
      have A1 := Lib.hid ha1; have B1 := Lib.hid (B0.out.trans hb1)
      have OW1 := Lib.hid (OW.out.keep (Nat.le_refl _) (hb1.froms HLT.out))
      clear ha1 hb1
      refine Lib.hid ?_
      go_wp2
      go_ret
      exact ⟨xs, _, _, rfl, OW1.out, by have := HR.out.len; omega, by have e := HR.out.go _ _ (.inl ⟨HBB.out, rfl, rfl⟩); rw [List.append_nil] at e; exact e, A1.out, B1.out⟩
set_option maxRecDepth 20000 in
set_option maxHeartbeats 1000000 in
theorem plist_expression {R : Nat} {L : List Tk} {d : Nat} {st : RSt} {w : World} (h : At R L w d st) (K : ∀ s : RSt, s.rem ≤ st.rem → GT 46 R L #[.pointer (some ⟨R, 0, none⟩)] (.lvl 4) d s) :
    Calls Tryz.prog 96 #[.pointer (some ⟨R, 0, none⟩), .func (.func 46) #[.pointer (some ⟨R, 0, none⟩)] #[]] w (PL R L (.list (.lvl 4)) d st w) := by
  have HTL := Lib.hid h.fix.toks
  have KL := Lib.hid K
  clear K
  have HA0 := Lib.hid h
  have HLT := Lib.hid h.fix.lt; have HRW := Lib.hid h.fix.lt
  have A0 := Lib.hid h; have B0 := Lib.hid (Butt.refl R w)
  clear h 
  go_enter Tryz.func96, Tryz.ntmps96
  go_wp2_with (go_at_call 46; refine (KL.out st (Nat.le_refl _) _ A0.out).mono ?_; rintro e w1 ⟨x1, v1, s1, rfl, hx1, hs1, ha1, hb1⟩; refine Hid.out ?_)
  obtain ⟨k1, a1, t1, n1, o1, l1, c1, q1, rfl, rfl, hk1⟩ := hx1.shape
  have HS1 := Lib.hid hs1
  have TR1 := Lib.hid (synIn.of (ps := []) hx1 (Nat.le_trans (Nat.le_refl _) B0.out.size) (by simp))
  have A1 := Lib.hid ha1; have B1 := Lib.hid (B0.out.trans hb1)
  clear ha1 hb1 hx1 hk1 hs1
  refine Lib.hid ?_
  have OW := Lib.hid (ownT.one TR1.out.at B1.out.size)
  have HR0 := Lib.hid (Run.rem HS1.out); have HRA := Lib.hid A0.out.rem
  have A1a := Lib.hid (A1.out.alloc (Obj.cells #[.int .i64 k1, .int .i64 a1, .string t1, .int .i64 n1, .slice o1 l1 c1] 25)); have B1a := Lib.hid (B1.out.alloc HRW.out (Obj.cells #[.int .i64 k1, .int .i64 a1, .string t1, .int .i64 n1, .slice o1 l1 c1] 25))
  have TR11a := Lib.hid (TR1.out.butt HLT.out (Butt.of_below A1.out.fix.lt ((Below.refl _ _).alloc (Nat.le_refl _) (Obj.cells #[.int .i64 k1, .int .i64 a1, .string t1, .int .i64 n1, .slice o1 l1 c1] 25))))
  go_wp2_with fail
  have HLP : Hid (LstAt R L w d st (.lvl 4) _ s1 _ _) := Lib.hid ⟨A1a.out, B1a.out, OW.out, by have := HR0.out; simp only [List.length_cons, List.length_nil]; omega, HR0.out, fun ys s' ht => list_cons HTL.out HS1.out ht⟩
  go_loopw [5] (fun v wr => ∃ (s : RSt) (xs : List Syn) (ao : Option Addr) (c : Nat), v = .slice ao xs.length c ∧ LstAt R L w d st (.lvl 4) wr s xs v) (fun _ wr => remW R L wr)
  case atStart => exact ⟨s1, _, _, _, rfl, HLP.out⟩
  case round =>
    obtain ⟨s, xs, ao, c, rfl, hrel⟩ := hrel
    have CO := saccept hrel.hat comma
    unfold comma at CO
    cases hb : tIs L s comma with
    | true =>
      have hb' := hb; unfold comma at hb'
      rw [hb'] at CO
      simp only [if_true] at CO
      have KO := Lib.hid CO; have HBB := Lib.hid hb; have HR := Lib.hid hrel; clear CO hb hb'
      have HSR : Hid (s.rem ≤ st.rem) := Lib.hid HR.out.srem
      have A0 := Lib.hid hrel.hat; have B0 := Lib.hid hrel.hb; have OW := Lib.hid hrel.own
      clear hrel
      go_wp2_with (go_at_call 84; refine (KO.out).mono ?_; rintro e w1 ⟨rfl, ha1, hb1⟩; refine Hid.out ?_)
      have A1 := Lib.hid ha1; have B1 := Lib.hid (B0.out.trans hb1)
      have OW1 := Lib.hid (OW.out.keep (Nat.le_refl _) (hb1.froms HLT.out))
      clear ha1 hb1
      refine Lib.hid ?_
      go_wp2_with (go_at_call 46; refine (KL.out _ (Nat.le_trans (takeS_rem _) HSR.out) _ A1.out).mono ?_; rintro e w2 ⟨x2, v2, s2, rfl, hx2, hs2, ha2, hb2⟩; refine Hid.out ?_)
      obtain ⟨k2, a2, t2, n2, o2, l2, c2, q2, rfl, rfl, hk2⟩ := hx2.shape
      have HS2 := Lib.hid hs2
      have HOFF := Lib.hid (OW1.out.off (Nat.le_refl _) hx2 B1.out.size)
      have HLEN : Hid ((xs ++ [Syn.mk k2 a2 t2 n2 q2]).length + s2.rem ≤ st.rem + 1) := Lib.hid (by
        obtain ⟨l1, e1, e2, e3⟩ := rem_less HTL.out HR.out.hat (comma_text HBB.out)
        have g1 := HR.out.len
        have g2 := Run.rem HS2.out
        rw [e1, show (RSt.ok l1).rem = l1.length from rfl] at g1
        rw [List.length_append, show [Syn.mk k2 a2 t2 n2 q2].length = 1 from rfl]
        omega)
      have TR2 := Lib.hid (synIn.of (ps := []) hx2 (Nat.le_trans (Nat.le_refl _) B1.out.size) (by simp))
      have A2 := Lib.hid ha2; have B2 := Lib.hid (B1.out.trans hb2)
      have OW2 := Lib.hid (OW1.out.keep (Nat.le_refl _) (hb2.froms HLT.out))
      clear ha2 hb2 hx2 hk2 hs2
      refine Lib.hid ?_
      have A2a := Lib.hid (A2.out.alloc (Obj.cells #[.int .i64 k2, .int .i64 a2, .string t2, .int .i64 n2, .slice o2 l2 c2] 25)); have B2a := Lib.hid (B2.out.alloc HRW.out (Obj.cells #[.int .i64 k2, .int .i64 a2, .string t2, .int .i64 n2, .slice o2 l2 c2] 25))
      have TR22a := Lib.hid (TR2.out.butt HLT.out (Butt.of_below A2.out.fix.lt ((Below.refl _ _).alloc (Nat.le_refl _) (Obj.cells #[.int .i64 k2, .int .i64 a2, .string t2, .int .i64 n2, .slice o2 l2 c2] 25))))
      have OW2a := Lib.hid (OW2.out.keep (Nat.le_refl _) (From.of_below ((Below.refl _ _).alloc (Nat.le_refl _) (Obj.cells #[.int .i64 k2, .int .i64 a2, .string t2, .int .i64 n2, .slice o2 l2 c2] 25))))
      have HZ := Lib.hid (HOFF.out.below ((Below.refl _ _).alloc (Nat.le_refl _) (Obj.cells #[.int .i64 k2, .int .i64 a2, .string t2, .int .i64 n2, .slice o2 l2 c2] 25)))
      have HL1 : Hid (xs.length ≤ 1200000) := Lib.hid (by have := HR.out.len; have := HRA.out; omega)
      have HB1 : Hid (w.heap.size ≤ (w2.alloc (Obj.cells #[.int .i64 k2, .int .i64 a2, .string t2, .int .i64 n2, .slice o2 l2 c2] 25)).heap.size) := Lib.hid B2a.out.size
      go_wp2_with (first | (at_builtin; refine wpList_append_tree rfl (.tmp 11) (.tmp 14) rfl w.heap.size _ xs (by simp [Act.eval, Act.put]) OW2a.out HL1.out HB1.out w2.heap.size _ _ _ _ _ _ (by simp [Act.eval, Act.put]) HZ.out ⟨rfl, rfl, rfl, rfl, rfl⟩ (by go_cell) (by go_cell) (by go_cell) (by go_cell) (by go_cell) ?_; intro v9 ao9 cap9 w9 hv9 ho9 hg9; refine Hid.out ?_) | fail)
      subst hv9
      have hgr := At.grow HA0.out A2a.out B2a.out (grownBy_froms hg9 (fun b e => (OW2a.out.lo b e).1) HLT.out HB1.out)
      have HSR2 : Hid (s2.rem ≤ st.rem) := Lib.hid (Nat.le_trans (Run.rem HS2.out) (Nat.le_trans (takeS_rem _) HSR.out))
      have HNX : Hid (LstAt R L w d st (.lvl 4) w9 s2 (xs ++ [.mk k2 a2 t2 n2 q2]) _) := Lib.hid ⟨hgr.1, hgr.2, ho9, HLEN.out, HSR2.out, fun ys s' ht => by have e := HR.out.go _ _ (.inr ⟨HBB.out, list_cons HTL.out HS2.out ht⟩); rw [List.append_assoc]; exact e⟩
      clear hgr ho9 hg9
      refine Lib.hid ?_
      go_wp2
      go_roundw
      case rel => exact ⟨s2, xs ++ [.mk k2 a2 t2 n2 q2], ao9, cap9, by rw [List.length_append]; rfl, HNX.out⟩
      case measure =>
        obtain ⟨l1, e1, e2, e3⟩ := rem_less HTL.out HR.out.hat (comma_text HBB.out)
        have g1 := remW_ok (e1 ▸ HR.out.hat)
        have g2 := remW_le HNX.out.hat
        have g3 := Run.rem HS2.out
        rw [g1]
        omega
    | false =>
      have hb' := hb; unfold comma at hb'
      rw [hb'] at CO
      simp only [Bool.false_eq_true, if_false] at CO
      have KO := Lib.hid CO; have HBB := Lib.hid hb; have HR := Lib.hid hrel; clear CO hb hb'
      have A0 := Lib.hid hrel.hat; have B0 := Lib.hid hrel.hb; have OW := Lib.hid hrel.own
      clear hrel
      go_wp2_with (go_at_call 84; refine (KO.out).mono ?_; rintro e w1 ⟨rfl, ha1, hb1⟩; refine Hid.out ?_)
      have A1 := Lib.hid ha1; have B1 := Lib.hid (B0.out.trans hb1)
      have OW1 := Lib.hid (OW.out.keep (Nat.le_refl _) (hb1.froms HLT.out))
      clear ha1 hb1
      refine Lib.hid ?_
      go_wp2
      go_ret
      exact ⟨xs, _, _, rfl, OW1.out, by have := HR.out.len; omega, by have e := HR.out.go _ _ (.inl ⟨HBB.out, rfl, rfl⟩); rw [List.append_nil] at e; exact e, A1.out, B1.out⟩
end Go.Proofs.YtdibcllakkjegaaGreatDoor

set_option linter.unusedSimpArgs false
set_option linter.unusedVariables false
namespace Go.Proofs.YtdibcllakkjegaaGreatDoor
open Go Go.Proofs Go.RowKit
abbrev Rd (α : Type) := Nat → List Tk → Except (Int × Nat) (α × List Tk)
def mPeek : Rd Tk := fun _ l => .ok (pHd l, l)
def mTake : Rd Tk := fun _ l => .ok (pHd l, pTl l)
def mIs (s : List UInt8) : Rd Bool := fun _ l => .ok (pIs s l, l)
def mNext : Rd (List UInt8) := fun _ l => .ok (pNext l, l)
def mNamed : Rd Bool := fun _ l => .ok (pNamed (pHd l), l)
def mName : Rd Tk := fun _ l => pName l
def mNeed (s : List UInt8) : Rd Tk := fun _ l => if pIs s l = true then .ok (pHd l, pTl l) else .error ((pHd l).a, 4)
def mEnter (s : List UInt8) (d : Nat) : Rd Tk := fun _ l => if pIs s l = true then (if d = 64 then .error ((pHd l).a, 12) else .ok (pHd l, pTl l)) else .error ((pHd l).a, 4)
def mNum : Rd Int := fun _ l => if (pHd l).k = 1 then (if 1048576 < pNum (bytes (pHd l).t) then .error ((pHd l).a, 2) else .ok ((pNum (bytes (pHd l).t) : Int), pTl l)) else .error ((pHd l).a, 4)
def mRead (w : Want) (d : Nat) : Rd (List Syn) := fun f l => pRead f w d l
def mRet {α : Type} (x : α) : Rd α := fun _ l => .ok (x, l)
def mBind {α β : Type} (m : Rd α) (k : α → Rd β) : Rd β := fun f l => m f l >>= fun p => k p.1 f p.2
section
variable {α β : Type} {m : Rd α} {st s1 s2 : RSt} {x : α} {y : β} {L : List Tk} {d : Nat}
theorem Run.bind {k : α → Rd β} (h : Run m st x s1) (g : Run (k x) s1 y s2) : Run (mBind m k) st y s2 := by
  cases st with
  | bad a e => rw [show s1 = .bad a e from h] at g; exact g
  | ok l =>
    rcases h with ⟨l1, rfl, h0, h1, N, hN⟩ | ⟨a, e, he, rfl, N, hN⟩
    · rcases g with ⟨l2, rfl, g0, g1, M, hM⟩ | ⟨a, e, he, rfl, M, hM⟩
      · exact .inl ⟨l2, rfl, g0, Nat.le_trans g1 h1, max N M, fun f hf => by show m f l >>= _ = _; rw [hN f (by omega)]; exact hM f (by omega)⟩
      · exact .inr ⟨a, e, he, rfl, max N M, fun f hf => by show m f l >>= _ = _; rw [hN f (by omega)]; exact hM f (by omega)⟩
    · rw [show s2 = .bad a e from g]
      exact .inr ⟨a, e, he, rfl, N, fun f hf => by show m f l >>= _ = _; rw [hN f hf]; rfl⟩
theorem Run.want {w : Want} {xs : List Syn} {m : Rd (List Syn)} (h : Run m st xs s1) (e : ∀ f l, pRead (f + 1) w d l = m f l) : Stp w d st xs s1 := by
  cases st with
  | bad a e => exact h
  | ok l =>
    rcases h with ⟨l1, rfl, h0, h1, N, hN⟩ | ⟨a, n, he, rfl, N, hN⟩
    · exact st_go h0 h1 N fun f hf => (e f l).trans (hN f hf)
    · exact st_err he N fun f hf => (e f l).trans (hN f hf)
theorem run_peek (hf : st.fine) : Run mPeek st (cur L st) st := by
  cases st with
  | bad a e => exact rfl
  | ok l => exact .inl ⟨l, rfl, hf, Nat.le_refl _, 0, fun f _ => rfl⟩
theorem run_take (hf : st.fine) : Run mTake st (cur L st) (takeS st) := by
  cases st with
  | bad a e => exact rfl
  | ok l => exact .inl ⟨pTl l, rfl, pTl_ne hf, pTl_len l, 0, fun f _ => rfl⟩
theorem run_is (hf : st.fine) (s : List UInt8) : Run (mIs s) st (tIs L st ⟨s.toArray⟩) st := by
  cases st with
  | bad a e => exact rfl
  | ok l => exact .inl ⟨l, rfl, hf, Nat.le_refl _, 0, fun f _ => by unfold mIs; rw [tIs_ok]⟩
theorem run_next (hf : st.fine) : Run mNext st (bytes (nextT L st)) st := by
  cases st with
  | bad a e => exact rfl
  | ok l => exact .inl ⟨l, rfl, hf, Nat.le_refl _, 0, fun f _ => rfl⟩
theorem run_named (hf : st.fine) : Run mNamed st (isN (cur L st)) st := by
  cases st with
  | bad a e => exact rfl
  | ok l => exact .inl ⟨l, rfl, hf, Nat.le_refl _, 0, fun f _ => by unfold mNamed; rw [isN_ok]⟩
theorem run_ret (hf : st.fine) : Run (mRet x) st x st := by
  cases st with
  | bad a e => exact rfl
  | ok l => exact .inl ⟨l, rfl, hf, Nat.le_refl _, 0, fun f _ => rfl⟩
theorem run_name (hf : st.fine) : Run mName st (tokM L st (isN (cur L st))) (needS (isN (cur L st)) st) := by
  cases st with
  | bad a e => exact rfl
  | ok l =>
    rw [isN_ok]
    cases hc : pNamed (pHd l) with
    | true => exact .inl ⟨pTl l, rfl, pTl_ne hf, pTl_len l, 0, fun f _ => by unfold mName pName; rw [if_pos hc]; rfl⟩
    | false => exact .inr ⟨_, 4, by decide, rfl, 0, fun f _ => by unfold mName pName; rw [hc]; rfl⟩
theorem run_need (hf : st.fine) (s : List UInt8) : Run (mNeed s) st (tokM L st (tIs L st ⟨s.toArray⟩)) (needS (tIs L st ⟨s.toArray⟩) st) := by
  cases st with
  | bad a e => exact rfl
  | ok l =>
    rw [tIs_ok]
    cases hc : pIs s l with
    | true => exact .inl ⟨pTl l, rfl, pTl_ne hf, pTl_len l, 0, fun f _ => by unfold mNeed; rw [if_pos hc]; rfl⟩
    | false => exact .inr ⟨_, 4, by decide, rfl, 0, fun f _ => by unfold mNeed; rw [hc]; rfl⟩
theorem run_enter (hf : st.fine) (s : List UInt8) : Run (mEnter s d) st (tokM L st (tIs L st ⟨s.toArray⟩)) (enterS L st d (tIs L st ⟨s.toArray⟩)) := by
  cases st with
  | bad a e => unfold enterS; split <;> exact rfl
  | ok l =>
    rw [tIs_ok]
    unfold enterS
    by_cases h64 : d = 64
    · rw [if_pos h64]
      cases hc : pIs s l with
      | true => exact .inr ⟨_, 12, by decide, rfl, 0, fun f _ => by unfold mEnter; rw [if_pos hc, if_pos h64]; rfl⟩
      | false => exact .inr ⟨_, 4, by decide, rfl, 0, fun f _ => by unfold mEnter; rw [hc]; rfl⟩
    · rw [if_neg h64]
      cases hc : pIs s l with
      | true => exact .inl ⟨pTl l, rfl, pTl_ne hf, pTl_len l, 0, fun f _ => by unfold mEnter; rw [if_pos hc, if_neg h64]; rfl⟩
      | false => exact .inr ⟨_, 4, by decide, rfl, 0, fun f _ => by unfold mEnter; rw [hc]; rfl⟩
theorem needS_fine {can : Bool} (h : st.fine) : (needS can st).fine := by
  cases st with
  | bad a e => exact h
  | ok l =>
    cases can with
    | true => exact pTl_ne h
    | false => exact (by decide : (4 : Nat) ≠ 0)
end
theorem ebind_congr {α β : Type} {m : Except (Int × Nat) α} {f g : α → Except (Int × Nat) β} (h : ∀ a, f a = g a) : (m >>= f) = (m >>= g) := by rw [show f = g from funext h]
theorem ite_ebind {α β : Type} {c : Prop} [Decidable c] {a b : Except (Int × Nat) α} {k : α → Except (Int × Nat) β} : ((if c then a else b) >>= k) = if c then a >>= k else b >>= k := by split <;> rfl
theorem ebind_assoc {α β γ : Type} {a : Except (Int × Nat) α} {f : α → Except (Int × Nat) β} {k : β → Except (Int × Nat) γ} : ((a >>= f) >>= k) = (a >>= fun x => f x >>= k) := by cases a <;> rfl
theorem ok_ebind {α β : Type} {a : α} {k : α → Except (Int × Nat) β} : ((Except.ok a : Except (Int × Nat) α) >>= k) = k a := rfl
theorem error_ebind {α β : Type} {a : Int × Nat} {k : α → Except (Int × Nat) β} : ((Except.error a : Except (Int × Nat) α) >>= k) = Except.error a := rfl
theorem Run.ite {α : Type} {m k : Rd α} {st s1 : RSt} {x : α} {c : Prop} [Decidable c] (h1 : c → Run m st x s1) (h2 : ¬ c → Run k st x s1) : Run (if c then m else k) st x s1 := by
  by_cases h : c
  · rw [if_pos h]; exact h1 h
  · rw [if_neg h]; exact h2 h
def mBefore (s : List UInt8) (w : Want) (d : Nat) : Rd (List Syn) := fun f l => if pIs s l = true then .ok ([], l) else pRead f (.list w) d l
def LBef (L : List Tk) (s : ByteArray) (w : Want) (d : Nat) (st : RSt) (xs : List Syn) (st' : RSt) : Prop := (tIs L st s = true ∧ xs = [] ∧ st' = st) ∨ (tIs L st s = false ∧ Stp (.list w) d st xs st')
theorem run_before {L : List Tk} {st st' : RSt} {s : List UInt8} {w : Want} {d : Nat} {xs : List Syn} (hf : st.fine) (h : LBef L ⟨s.toArray⟩ w d st xs st') : Run (mBefore s w d) st xs st' := by
  cases st with
  | bad a e =>
    rcases h with ⟨-, -, h⟩ | ⟨-, h⟩
    · exact h
    · exact h
  | ok l =>
    rcases h with ⟨hc, rfl, rfl⟩ | ⟨hc, h⟩
    · rw [tIs_ok] at hc
      exact .inl ⟨l, rfl, hf, Nat.le_refl _, 0, fun f _ => by unfold mBefore; rw [if_pos hc]⟩
    · rw [tIs_ok] at hc
      rcases elS h with ⟨l1, rfl, h0, h1, N, hN⟩ | ⟨a, e, he, rfl, N, hN⟩
      · exact .inl ⟨l1, rfl, h0, h1, N, fun f hf => by unfold mBefore; rw [hc, if_neg Bool.false_ne_true]; exact hN f hf⟩
      · exact .inr ⟨a, e, he, rfl, N, fun f hf => by unfold mBefore; rw [hc, if_neg Bool.false_ne_true]; exact hN f hf⟩
end Go.Proofs.YtdibcllakkjegaaGreatDoor
