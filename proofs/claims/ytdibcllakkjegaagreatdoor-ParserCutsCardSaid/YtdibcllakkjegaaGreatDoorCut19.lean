import Derived.Test.YtdibcllakkjegaaGreatDoorCut18
import Derived.Deep.RegionHeld3

set_option linter.unusedVariables false
/-
  parser: number, length.
-/
set_option linter.unusedSimpArgs false
set_option linter.unusedVariables false
namespace Go.Proofs.YtdibcllakkjegaaGreatDoor
open Go Go.Proofs Go.RowKit Go.Sort
theorem smust {R : Nat} {L : List Tk} {d : Nat} {st : RSt} {w : World} (h : At R L w d st) (can : Bool) : Calls Tryz.prog 94 #[.pointer (some ⟨R, 0, none⟩), .bool can] w fun e w' => e = .returned (tkA (tokM L st can)) ∧ At R L w' d (needS can st) ∧ Butt R w w' := by
  obtain ⟨hf, nx, a, er, h1, h2, h3⟩ := h
  refine (pmust_any R L nx d a er can w h2 h1 (Nat.le_trans hf.toks.len (by decide))).mono ?_
  rintro e w' ⟨rfl, hr, hb⟩
  exact ⟨by rw [← tok_of _ h1 h3]; rfl, ⟨hf.butt hb, need_of _ h1 h3 hr⟩, hb⟩
theorem sfail {R : Nat} {L : List Tk} {d : Nat} {st : RSt} {w : World} (h : At R L w d st) (a : Int) (e : Nat) (he : e ≠ 0) : Calls Tryz.prog 128 #[.pointer (some ⟨R, 0, none⟩), .int .i64 a, .int .i64 (e : Int)] w fun x w' => x = .returned (.tuple #[]) ∧ At R L w' d (failS a e st) ∧ Butt R w w' := by
  obtain ⟨hf, nx, b, er, h1, h2, h3⟩ := h
  refine (pfail_any R L nx d b er a e w h2 (Nat.le_trans hf.toks.len (by decide))).mono ?_
  rintro x w' ⟨rfl, hr, hb⟩
  refine ⟨rfl, ⟨hf.butt hb, ?_⟩, hb⟩
  rcases h3 with ⟨rfl, rfl, rfl⟩ | ⟨g1, rfl, rfl⟩
  · rw [if_pos (by rfl), if_pos (by rfl)] at hr
    exact ⟨_, a, e, by omega, hr, .inr ⟨he, rfl, rfl⟩⟩
  · rw [if_neg (by omega), if_neg (by omega)] at hr
    exact ⟨_, b, er, h1, hr, .inr ⟨g1, rfl, rfl⟩⟩
theorem store3 {R : Nat} {L : List Tk} {d0 d q : Nat} {st0 st : RSt} {w W : World} {u0 u1 u2 : Value} (h0 : At R L w d0 st0) (hb : Butt R w W) (ha : At R L W d st) (hB : Bx3 W q u0 u1 u2) (hq : w.heap.size ≤ q)
    (v0 v1 v2 : Value) (W' : World) (hW : W' = ((W.setCell ⟨q, 0, none⟩ v0).setCell ⟨q, 1, none⟩ v1).setCell ⟨q, 2, none⟩ v2) :
    (W'.cell? ⟨q, 0, none⟩ = some v0 ∧ W'.cell? ⟨q, 1, none⟩ = some v1 ∧ W'.cell? ⟨q, 2, none⟩ = some v2) ∧ At R L W' d st ∧ Butt R w W' := by
  obtain ⟨q0, q1, q2⟩ := box3 hB.c0 hB.c1 hB.c2 v0 v1 v2
  obtain ⟨hf0, nx0, a0, er0, h01, h02, h03⟩ := h0
  obtain ⟨hf, nx, a, er, h1, h2, h3⟩ := ha
  obtain ⟨hr, hbt⟩ := boxed h02 hb h2 hq v0 v1 v2
  rw [← hW] at hr hbt q0 q1 q2
  exact ⟨⟨q0, q1, q2⟩, ⟨hf0.butt hbt, nx, a, er, h1, hr, h3⟩, hbt⟩
set_option maxRecDepth 20000 in
set_option maxHeartbeats 1000000 in
theorem pnumber {R : Nat} {L : List Tk} {d : Nat} {st : RSt} {w : World} (h : At R L w d st) :
    Calls Tryz.prog 171 #[.pointer (some ⟨R, 0, none⟩)] w fun e w' => e = .returned (tkA (tokM L st ((cur L st).k == 1))) ∧ At R L w' d (needS ((cur L st).k == 1) st) ∧ Butt R w w' := by
  have CN := fun W (H : At R L W d st) => sisNumber H
  have CM := fun W (H : At R L W d st) => smust H ((cur L st).k == 1)
  generalize ((cur L st).k == 1) = can at *
  generalize tokM L st can = T at *
  generalize needS can st = s1 at *
  obtain ⟨ek, et, ea⟩ := T
  unfold tkA at *
  dsimp only at *
  have KN := Lib.hid CN; have KM := Lib.hid CM; have HA0 := Lib.hid h; have HLT := Lib.hid h.fix.lt
  have A0 := Lib.hid (h.alloc (Obj.cells #[.int .i64 0, .string ⟨#[]⟩, .int .i64 0] 47)); have B0 := Lib.hid ((Butt.refl R w).alloc h.fix.lt (Obj.cells #[.int .i64 0, .string ⟨#[]⟩, .int .i64 0] 47))
  have TR0 := Lib.hid (Bx3.new w (.int .i64 0) (.string ⟨#[]⟩) (.int .i64 0))
  have HPR : Hid (w.heap.size ≠ R) := Lib.hid (fun e => absurd h.fix.lt (by rw [e]; exact Nat.lt_irrefl _))
  clear CN CM h
  go_enter Tryz.func171, Tryz.ntmps171
  go_wp2_with (go_at_call 145; refine (KN.out _ A0.out).mono ?_; rintro e w1 ⟨rfl, ha1, hb1⟩; refine Hid.out ?_)
  have A1 := Lib.hid ha1; have B1 := Lib.hid (B0.out.trans hb1); have TR1 := Lib.hid (TR0.out.butt HPR.out hb1)
  clear ha1 hb1
  refine Lib.hid ?_
  go_wp2_with (go_at_call 94; refine (KM.out _ A1.out).mono ?_; rintro e w2 ⟨rfl, ha2, hb2⟩; refine Hid.out ?_)
  have A2 := Lib.hid ha2; have B2 := Lib.hid (B1.out.trans hb2); have TR2 := Lib.hid (TR1.out.butt HPR.out hb2)
  clear ha2 hb2
  refine Lib.hid ?_
  have FT := Lib.hid (store3 HA0.out B2.out A2.out TR2.out (Nat.le_refl _) (.int .i64 ek) (.string et) (.int .i64 ea) _ rfl)
  obtain ⟨y0, y1, y2, yf, yl⟩ := TR2.out
  have f0 := yf 0; have f1 := yf 1; have f2 := yf 2
  obtain ⟨r0, r1, r2⟩ := FT.out.1
  have GA := Lib.hid FT.out.2.1; have GB := Lib.hid FT.out.2.2
  clear FT yf yl
  go_wp2
  refine bodyPost_ret (by simp [results, Tryz.results171, go_sem, r0, r1, r2]; rfl) rfl ?_
  exact ⟨rfl, GA.out, GB.out⟩
def NumL (L : List Tk) : Prop := ∀ n, (tkD L n).k = 1 → (Lib.atoiAll (tkD L n).t.data.toList = .ok (pNum (bytes (tkD L n).t) : Nat) ∧ pNum (bytes (tkD L n).t) ≤ 9223372036854775807) ∨ (Lib.atoiAll (tkD L n).t.data.toList = .range ∧ 1048576 < pNum (bytes (tkD L n).t))
theorem Calls.both {P : Program} {f : FuncId} {args : Array Value} {w : World} {v : Value} {n : TypeId} (h : Calls P f args w fun e w' => e = .returned v ∧ (w' = w ∨ ∃ t, w' = Lib.bytesWorld w n t)) : Calls P f args w fun e w' => e = .returned v ∧ Below w.heap.size w w' := by
  refine h.mono ?_
  rintro e w' ⟨he, rfl | ⟨t, rfl⟩⟩
  · exact ⟨he, Below.refl _ _⟩
  · exact ⟨he, Lib.bytesWorld_below _ _ _⟩
theorem mnum_ok {L : List Tk} {st : RSt} (hL : TkL L) (hf : st.fine) (hb : ((cur L st).k == 1) = true) (hv : ¬ 1048576 < pNum (bytes (cur L st).t)) : Run mNum st (pNum (bytes (cur L st).t) : Int) (takeS st) := by
  cases st with
  | bad a e => rw [isNum_bad hL] at hb; cases hb
  | ok l => exact .inl ⟨pTl l, rfl, pTl_ne hf, pTl_len l, 0, fun f _ => by unfold mNum; rw [if_pos (show (pHd l).k = 1 from beq_iff_eq.mp hb), if_neg (show ¬ 1048576 < pNum (bytes (pHd l).t) from hv)]; rfl⟩
theorem mnum_big {L : List Tk} {st : RSt} (hL : TkL L) (hb : ((cur L st).k == 1) = true) (hv : 1048576 < pNum (bytes (cur L st).t)) (n : Int) : Run mNum st n (failS (cur L st).a 2 (takeS st)) := by
  cases st with
  | bad a e => rw [isNum_bad hL] at hb; cases hb
  | ok l => exact .inr ⟨_, 2, by decide, rfl, 0, fun f _ => by unfold mNum; rw [if_pos (show (pHd l).k = 1 from beq_iff_eq.mp hb), if_pos (show 1048576 < pNum (bytes (pHd l).t) from hv)]; rfl⟩
theorem mnum_no {L : List Tk} {st : RSt} (hb : ((cur L st).k == 1) = false) (n : Int) (a : Int) : Run mNum st n (failS a 2 (needS false st)) := by
  cases st with
  | bad a e => exact rfl
  | ok l => exact .inr ⟨_, 4, by decide, rfl, 0, fun f _ => by unfold mNum; rw [if_neg (show ¬ (pHd l).k = 1 from fun e => by rw [show (cur L (.ok l)).k = 1 from e] at hb; cases hb)]⟩
set_option maxRecDepth 20000 in
set_option maxHeartbeats 1000000 in
theorem plength_ok {R : Nat} {L : List Tk} {d : Nat} {s1 : RSt} {w : World} {s0 : RSt} (ek : Int) (et : ByteArray) (ea : Int) (v : Int) (hv : ¬ 1048576 < v) (h : At R L w d s0) (CN : ∀ W : World, At R L W d s0 → Calls Tryz.prog 171 #[.pointer (some ⟨R, 0, none⟩)] W fun e w' => e = .returned (.agg #[.int .i64 ek, .string et, .int .i64 ea]) ∧ At R L w' d s1 ∧ Butt R W w') (CA : ∀ W : World, At R L W d s1 → Calls Tryz.prog 172 #[.string et] W fun e w' => e = .returned (.tuple #[.int .i64 v, .nilIface]) ∧ Below W.heap.size W w') :
    Calls Tryz.prog 163 #[.pointer (some ⟨R, 0, none⟩)] w fun e w' => e = .returned (.int .i64 v) ∧ At R L w' d s1 ∧ Butt R w w' := by
  have KN := Lib.hid CN; have KA := Lib.hid CA
  have t1 : decide ((1048576 : Int) < v) = false := decide_eq_false hv
  have HA0 := Lib.hid h
  have HLT := Lib.hid h.fix.lt; have HRW := Lib.hid h.fix.lt
  have A0 := Lib.hid h; have B0 := Lib.hid (Butt.refl R w)
  clear h CN CA hv
  go_enter Tryz.func163, Tryz.ntmps163
  go_wp2_with (go_at_call 171; refine (KN.out _ A0.out).mono ?_; rintro e w1 ⟨rfl, ha1, hb1⟩; refine Hid.out ?_)
  have A1 := Lib.hid ha1; have B1 := Lib.hid (B0.out.trans hb1)
  clear ha1 hb1
  refine Lib.hid ?_
  have A1a := Lib.hid (A1.out.alloc (Obj.cells #[.int .i64 ek, .string et, .int .i64 ea] 47)); have B1a := Lib.hid (B1.out.alloc HRW.out (Obj.cells #[.int .i64 ek, .string et, .int .i64 ea] 47))
  have PTT : Hid (w1.heap.size ≠ R) := Lib.hid (fun e => absurd (A1.out.fix.lt) (by rw [e]; exact Nat.lt_irrefl _))
  have TT1a := Lib.hid (Bx3.new w1 (.int .i64 ek) (.string et) (.int .i64 ea))
  have zTT := TT1a.out
  have yTT0 := zTT.c0
  have yTT1 := zTT.c1
  have yTT2 := zTT.c2
  clear zTT
  go_wp2_with (go_at_call 172; refine (KA.out _ A1a.out).mono ?_; rintro e w2 ⟨rfl, hbl⟩; refine Hid.out ?_)
  have ha2 := A1a.out.below hbl; have hb2 := Butt.of_below (R := R) A1a.out.fix.lt hbl; clear hbl yTT0 yTT1 yTT2
  have A2 := Lib.hid ha2; have B2 := Lib.hid (B1a.out.trans hb2)
  have TT2 := Lib.hid (TT1a.out.butt PTT.out hb2)
  clear ha2 hb2
  refine Lib.hid ?_
  have zTT := TT2.out
  have yTT0 := zTT.c0
  have yTT1 := zTT.c1
  have yTT2 := zTT.c2
  clear zTT
  go_wp2
  go_ret
  exact ⟨rfl, A2.out, B2.out⟩
set_option maxRecDepth 20000 in
set_option maxHeartbeats 1000000 in
theorem plength_big {R : Nat} {L : List Tk} {d : Nat} {s1 : RSt} {w : World} {s0 : RSt} (ek : Int) (et : ByteArray) (ea : Int) (v : Int) (hv : 1048576 < v) (h : At R L w d s0) (CN : ∀ W : World, At R L W d s0 → Calls Tryz.prog 171 #[.pointer (some ⟨R, 0, none⟩)] W fun e w' => e = .returned (.agg #[.int .i64 ek, .string et, .int .i64 ea]) ∧ At R L w' d s1 ∧ Butt R W w') (CA : ∀ W : World, At R L W d s1 → Calls Tryz.prog 172 #[.string et] W fun e w' => e = .returned (.tuple #[.int .i64 v, .nilIface]) ∧ Below W.heap.size W w') :
    Calls Tryz.prog 163 #[.pointer (some ⟨R, 0, none⟩)] w fun e w' => e = .returned (.int .i64 v) ∧ At R L w' d (failS ea 2 s1) ∧ Butt R w w' := by
  have KN := Lib.hid CN; have KA := Lib.hid CA
  have t1 : decide ((1048576 : Int) < v) = true := decide_eq_true hv
  have HA0 := Lib.hid h
  have HLT := Lib.hid h.fix.lt; have HRW := Lib.hid h.fix.lt
  have A0 := Lib.hid h; have B0 := Lib.hid (Butt.refl R w)
  clear h CN CA hv
  go_enter Tryz.func163, Tryz.ntmps163
  go_wp2_with (go_at_call 171; refine (KN.out _ A0.out).mono ?_; rintro e w1 ⟨rfl, ha1, hb1⟩; refine Hid.out ?_)
  have A1 := Lib.hid ha1; have B1 := Lib.hid (B0.out.trans hb1)
  clear ha1 hb1
  refine Lib.hid ?_
  have A1a := Lib.hid (A1.out.alloc (Obj.cells #[.int .i64 ek, .string et, .int .i64 ea] 47)); have B1a := Lib.hid (B1.out.alloc HRW.out (Obj.cells #[.int .i64 ek, .string et, .int .i64 ea] 47))
  have PTT : Hid (w1.heap.size ≠ R) := Lib.hid (fun e => absurd (A1.out.fix.lt) (by rw [e]; exact Nat.lt_irrefl _))
  have TT1a := Lib.hid (Bx3.new w1 (.int .i64 ek) (.string et) (.int .i64 ea))
  have zTT := TT1a.out
  have yTT0 := zTT.c0
  have yTT1 := zTT.c1
  have yTT2 := zTT.c2
  clear zTT
  go_wp2_with (go_at_call 172; refine (KA.out _ A1a.out).mono ?_; rintro e w2 ⟨rfl, hbl⟩; refine Hid.out ?_)
  have ha2 := A1a.out.below hbl; have hb2 := Butt.of_below (R := R) A1a.out.fix.lt hbl; clear hbl yTT0 yTT1 yTT2
  have A2 := Lib.hid ha2; have B2 := Lib.hid (B1a.out.trans hb2)
  have TT2 := Lib.hid (TT1a.out.butt PTT.out hb2)
  clear ha2 hb2
  refine Lib.hid ?_
  have zTT := TT2.out
  have yTT0 := zTT.c0
  have yTT1 := zTT.c1
  have yTT2 := zTT.c2
  clear zTT
  go_wp2_with (go_at_call 128; refine (sfail A2.out ea 2 (by decide)).mono ?_; rintro e w3 ⟨rfl, ha3, hb3⟩; refine Hid.out ?_)
  have A3 := Lib.hid ha3; have B3 := Lib.hid (B2.out.trans hb3)
  have TT3 := Lib.hid (TT2.out.butt PTT.out hb3)
  clear ha3 hb3
  refine Lib.hid ?_
  go_wp2
  go_ret
  exact ⟨rfl, A3.out, B3.out⟩
set_option maxRecDepth 20000 in
set_option maxHeartbeats 1000000 in
theorem plength_err {R : Nat} {L : List Tk} {d : Nat} {s1 : RSt} {w : World} {s0 : RSt} (ek : Int) (et : ByteArray) (ea : Int) (v : Int)  (h : At R L w d s0) (CN : ∀ W : World, At R L W d s0 → Calls Tryz.prog 171 #[.pointer (some ⟨R, 0, none⟩)] W fun e w' => e = .returned (.agg #[.int .i64 ek, .string et, .int .i64 ea]) ∧ At R L w' d s1 ∧ Butt R W w') (CA : ∀ W : World, At R L W d s1 → Calls Tryz.prog 172 #[.string et] W fun e w' => ∃ N, e = .returned (.tuple #[.int .i64 v, .iface 138 (.pointer (some ⟨N, 0, none⟩))]) ∧ Below W.heap.size W w') :
    Calls Tryz.prog 163 #[.pointer (some ⟨R, 0, none⟩)] w fun e w' => e = .returned (.int .i64 v) ∧ At R L w' d (failS ea 2 s1) ∧ Butt R w w' := by
  have KN := Lib.hid CN; have KA := Lib.hid CA
  have HA0 := Lib.hid h
  have HLT := Lib.hid h.fix.lt; have HRW := Lib.hid h.fix.lt
  have A0 := Lib.hid h; have B0 := Lib.hid (Butt.refl R w)
  clear h CN CA
  go_enter Tryz.func163, Tryz.ntmps163
  go_wp2_with (go_at_call 171; refine (KN.out _ A0.out).mono ?_; rintro e w1 ⟨rfl, ha1, hb1⟩; refine Hid.out ?_)
  have A1 := Lib.hid ha1; have B1 := Lib.hid (B0.out.trans hb1)
  clear ha1 hb1
  refine Lib.hid ?_
  have A1a := Lib.hid (A1.out.alloc (Obj.cells #[.int .i64 ek, .string et, .int .i64 ea] 47)); have B1a := Lib.hid (B1.out.alloc HRW.out (Obj.cells #[.int .i64 ek, .string et, .int .i64 ea] 47))
  have PTT : Hid (w1.heap.size ≠ R) := Lib.hid (fun e => absurd (A1.out.fix.lt) (by rw [e]; exact Nat.lt_irrefl _))
  have TT1a := Lib.hid (Bx3.new w1 (.int .i64 ek) (.string et) (.int .i64 ea))
  have zTT := TT1a.out
  have yTT0 := zTT.c0
  have yTT1 := zTT.c1
  have yTT2 := zTT.c2
  clear zTT
  go_wp2_with (go_at_call 172; refine (KA.out _ A1a.out).mono ?_; rintro e w2 ⟨N, rfl, hbl⟩; refine Hid.out ?_)
  have ha2 := A1a.out.below hbl; have hb2 := Butt.of_below (R := R) A1a.out.fix.lt hbl; clear hbl yTT0 yTT1 yTT2
  have A2 := Lib.hid ha2; have B2 := Lib.hid (B1a.out.trans hb2)
  have TT2 := Lib.hid (TT1a.out.butt PTT.out hb2)
  clear ha2 hb2
  refine Lib.hid ?_
  have zTT := TT2.out
  have yTT0 := zTT.c0
  have yTT1 := zTT.c1
  have yTT2 := zTT.c2
  clear zTT
  go_wp2_with (go_at_call 128; refine (sfail A2.out ea 2 (by decide)).mono ?_; rintro e w3 ⟨rfl, ha3, hb3⟩; refine Hid.out ?_)
  have A3 := Lib.hid ha3; have B3 := Lib.hid (B2.out.trans hb3)
  have TT3 := Lib.hid (TT2.out.butt PTT.out hb3)
  clear ha3 hb3
  refine Lib.hid ?_
  go_wp2
  go_ret
  exact ⟨rfl, A3.out, B3.out⟩
theorem plength {R : Nat} {L : List Tk} {d : Nat} {st : RSt} {w : World} (hN : NumL L) (h : At R L w d st) :
    Calls Tryz.prog 163 #[.pointer (some ⟨R, 0, none⟩)] w fun e w' => ∃ n st', e = .returned (.int .i64 n) ∧ Run mNum st n st' ∧ At R L w' d st' ∧ Butt R w w' := by
  have hfi := h.fine
  have hL := h.fix.toks
  have CN := fun W (H : At R L W d st) => pnumber H
  have hsz : (tokM L st ((cur L st).k == 1)).t.size ≤ 1000000 := by
    obtain ⟨hf, nx, a, er, h1, h2, h3⟩ := h
    rw [← tok_of _ h1 h3]
    exact hL.size _
  have hE : ∀ W : World, At R L W d (needS ((cur L st).k == 1) st) → ∀ k, k = 2 ∨ k = 3 → ∃ ev, W.cell? ⟨k, 0, none⟩ = some ev ∧ (ev = .nilIface ∨ ∃ te pe, ev = .iface te pe) := fun W H k hk => (H.fix.errs k hk).2.2
  cases hb : ((cur L st).k == 1) with
  | true =>
    have e1 : needS true st = takeS st := by cases st <;> rfl
    rw [hb] at CN hsz hE
    rw [e1] at CN hE
    rw [tokM_true] at CN hsz
    have hk : (cur L st).k = 1 := beq_iff_eq.mp hb
    have hn : (Lib.atoiAll (cur L st).t.data.toList = .ok (pNum (bytes (cur L st).t) : Nat) ∧ pNum (bytes (cur L st).t) ≤ 9223372036854775807) ∨ (Lib.atoiAll (cur L st).t.data.toList = .range ∧ 1048576 < pNum (bytes (cur L st).t)) := by
      obtain ⟨hf, nx, a, er, h1, h2, h3⟩ := h
      have hc := cur_of h1 h3
      rw [hc] at hk ⊢
      exact hN nx hk
    have H1 := mnum_ok hL hfi hb
    have H2 := mnum_big hL hb
    generalize cur L st = T at *
    obtain ⟨ek, et, ea⟩ := T
    unfold tkA at CN
    dsimp only at *
    rcases hn with ⟨hn, hle⟩ | ⟨hn, hlt⟩
    · have CA := fun W (_ : At R L W d (takeS st)) => Calls.both (Tryz.strconv_Atoi_ok et (by omega) _ hn W)
      by_cases hv : 1048576 < pNum (bytes et)
      · refine (plength_big ek et ea (pNum (bytes et) : Nat) (by omega) h CN CA).mono ?_
        rintro e w' ⟨rfl, ha, hb⟩
        exact ⟨_, _, rfl, H2 hv _, ha, hb⟩
      · refine (plength_ok ek et ea (pNum (bytes et) : Nat) (by omega) h CN CA).mono ?_
        rintro e w' ⟨rfl, ha, hb⟩
        exact ⟨_, _, rfl, H1 hv, ha, hb⟩
    · have CA : ∀ W : World, At R L W d (takeS st) → Calls Tryz.prog 172 #[.string et] W fun e w' => ∃ N, e = .returned (.tuple #[.int .i64 (Lib.atoiSat et.data.toList), .iface 138 (.pointer (some ⟨N, 0, none⟩))]) ∧ Below W.heap.size W w' := fun W H => by
        obtain ⟨ev, g1, g2⟩ := hE W H _ (.inr rfl)
        exact (Tryz.strconv_Atoi_range et (by omega) hn ev W g1 g2).mono (fun e w' ⟨N, e1, _, _, e2⟩ => (⟨N, e1, e2⟩ : ∃ N, e = .returned (.tuple #[.int .i64 (Lib.atoiSat et.data.toList), .iface 138 (.pointer (some ⟨N, 0, none⟩))]) ∧ Below W.heap.size W w'))
      refine (plength_err ek et ea _ h CN CA).mono ?_
      rintro e w' ⟨rfl, ha, hb⟩
      exact ⟨_, _, rfl, H2 hlt _, ha, hb⟩
  | false =>
    rw [hb] at CN hsz hE
    have H3 := mnum_no (L := L) (st := st) hb
    have ht : (tokM L st false).t = ⟨#[]⟩ := hL.last.2
    generalize tokM L st false = T at *
    obtain ⟨ek, et, ea⟩ := T
    unfold tkA at CN
    dsimp only at *
    subst ht
    have CA : ∀ W : World, At R L W d (needS false st) → Calls Tryz.prog 172 #[.string ⟨#[]⟩] W fun e w' => ∃ N, e = .returned (.tuple #[.int .i64 0, .iface 138 (.pointer (some ⟨N, 0, none⟩))]) ∧ Below W.heap.size W w' := fun W H => by
      obtain ⟨ev, g1, g2⟩ := hE W H _ (.inl rfl)
      exact (Tryz.strconv_Atoi_syntax ⟨#[]⟩ (by decide) rfl ev W g1 g2).mono (fun e w' ⟨N, e1, _, _, e2⟩ => (⟨N, e1, e2⟩ : ∃ N, e = .returned (.tuple #[.int .i64 0, .iface 138 (.pointer (some ⟨N, 0, none⟩))]) ∧ Below W.heap.size W w'))
    refine (plength_err ek ⟨#[]⟩ ea 0 h CN CA).mono ?_
    rintro e w' ⟨rfl, ha, hb⟩
    exact ⟨_, _, rfl, H3 _ _, ha, hb⟩
theorem Bx3.kept {p q : Nat} {W W' : World} {v0 v1 v2 : Value} (h : Bx3 W p v0 v1 v2) (hp : p ≠ q) (hb : Kept (· ≠ q) W W') : Bx3 W' p v0 v1 v2 := by
  obtain ⟨c0, c1, c2, hf, hl⟩ := h
  exact ⟨(hb.cell (p := ⟨p, 0, none⟩) hp hl).trans c0, (hb.cell (p := ⟨p, 1, none⟩) hp hl).trans c1, (hb.cell (p := ⟨p, 2, none⟩) hp hl).trans c2, fun j => (by simp only [World.frozen?, hb.block p hp hl] : W'.frozen? ⟨p, j, none⟩ = W.frozen? ⟨p, j, none⟩).trans (hf j), Nat.lt_of_lt_of_le hl hb.size⟩
set_option maxRecDepth 20000 in
set_option maxHeartbeats 2000000 in
theorem ploop {R : Nat} {L : List Tk} {d : Nat} {st : RSt} {w : World} (h : At R L w d st) (hv : tIs L st ⟨#[119, 104, 105, 108, 101]⟩ = true) (KX : GT 41 R L #[.pointer (some ⟨R, 0, none⟩)] (.lvl 0) d (takeS st)) (KB : ∀ s : RSt, s.rem ≤ (takeS st).rem → GT 152 R L #[.pointer (some ⟨R, 0, none⟩)] .block d s) :
    Calls Tryz.prog 124 #[.pointer (some ⟨R, 0, none⟩)] w (PS R L (fun x st' => Run (mLoop d) st [x] st') d w) := by
  have hfi := h.fine
  have CE := fun W (H : At R L W d st) => sexpect H ⟨#[119, 104, 105, 108, 101]⟩
  rw [hv, tokM_true] at CE
  have e : needS true st = takeS st := by cases st <;> rfl
  rw [e] at CE
  have HM := Lib.hid (fun x y s1 s2 => run_loop (L := L) (d := d) (x := x) (y := y) (s1 := s1) (s2 := s2) hfi)
  generalize cur L st = T at *
  obtain ⟨ek, et, ea⟩ := T
  unfold tkA at *
  dsimp only at *
  have KE := Lib.hid CE; have KC := Lib.hid KX; have KK := Lib.hid KB
  have HA0 := Lib.hid h
  have HLT := Lib.hid h.fix.lt; have HRW := Lib.hid h.fix.lt
  have hA := h.alloc (Obj.cells #[.int .i64 0, .int .i64 0, .string ⟨#[]⟩, .int .i64 0, .slice none 0 0] 25)
  have hB := (Butt.refl R w).alloc h.fix.lt (Obj.cells #[.int .i64 0, .int .i64 0, .string ⟨#[]⟩, .int .i64 0, .slice none 0 0] 25)
  have hX := Bx5.new w (.int .i64 0) (.int .i64 0) (.string ⟨#[]⟩) (.int .i64 0) (.slice none 0 0)
  have hpR : w.heap.size ≠ R := fun e => absurd h.fix.lt (by rw [e]; exact Nat.lt_irrefl _)
  have hls : w.heap.size < (w.alloc (Obj.cells #[.int .i64 0, .int .i64 0, .string ⟨#[]⟩, .int .i64 0, .slice none 0 0] 25)).heap.size := by simp
  have A0 := Lib.hid hA; have B0 := Lib.hid hB; have XR0 := Lib.hid hX; have HPR := Lib.hid hpR; have HLS := Lib.hid hls
  clear hA hB hX hpR hls h CE KX KB hfi e hv
  go_enter Tryz.func124, Tryz.ntmps124
  go_wp2_with (go_at_call 55; refine (KE.out _ A0.out).mono ?_; rintro e w1 ⟨rfl, ha1, hb1⟩; refine Hid.out ?_)
  have A1 := Lib.hid ha1; have B1 := Lib.hid (B0.out.trans hb1)
  have XR1 := Lib.hid (XR0.out.butt HPR.out hb1)
  clear ha1 hb1
  refine Lib.hid ?_
  have A1a := Lib.hid (A1.out.alloc (Obj.cells #[.int .i64 ek, .string et, .int .i64 ea] 47)); have B1a := Lib.hid (B1.out.alloc HRW.out (Obj.cells #[.int .i64 ek, .string et, .int .i64 ea] 47))
  have XR1a := Lib.hid (XR1.out.alloc (Obj.cells #[.int .i64 ek, .string et, .int .i64 ea] 47))
  have PTT : Hid (w1.heap.size ≠ R) := Lib.hid (fun e => absurd (A1.out.fix.lt) (by rw [e]; exact Nat.lt_irrefl _))
  have TT1a := Lib.hid (Bx3.new w1 (.int .i64 ek) (.string et) (.int .i64 ea))
  go_wp2_with (go_at_call 41; refine (KC.out _ A1a.out).mono ?_; rintro e w2 ⟨x2, v2, s2, rfl, hx2, hs2, ha2, hb2⟩; refine Hid.out ?_)
  obtain ⟨k2, a2, t2, n2, o2, l2, c2, q2, rfl, rfl, hk2⟩ := hx2.shape
  have HS2 := Lib.hid hs2
  have TR2 := Lib.hid (synIn.of (ps := [w.heap.size]) hx2 (Nat.le_trans (Nat.le_refl _) B1a.out.size) (fun p hp => by simp only [List.mem_cons, List.not_mem_nil, or_false] at hp; have g0 := XR1a.out.lt; omega))
  have A2 := Lib.hid ha2; have B2 := Lib.hid (B1a.out.trans hb2)
  have XR2 := Lib.hid (XR1a.out.butt HPR.out hb2)
  have TT2 := Lib.hid (TT1a.out.butt PTT.out hb2)
  clear ha2 hb2 hx2 hk2 hs2
  refine Lib.hid ?_
  have KQ := Lib.hid (fun W (H : At R L W d s2) => KK.out s2 (Run.rem HS2.out) W H)
  have A2a1 := Lib.hid (A2.out.alloc (Obj.cells #[.int .i64 k2, .int .i64 a2, .string t2, .int .i64 n2, .slice o2 l2 c2] 25)); have B2a1 := Lib.hid (B2.out.alloc HRW.out (Obj.cells #[.int .i64 k2, .int .i64 a2, .string t2, .int .i64 n2, .slice o2 l2 c2] 25))
  have XR2a1 := Lib.hid (XR2.out.alloc (Obj.cells #[.int .i64 k2, .int .i64 a2, .string t2, .int .i64 n2, .slice o2 l2 c2] 25))
  have TT2a1 := Lib.hid (TT2.out.alloc (Obj.cells #[.int .i64 k2, .int .i64 a2, .string t2, .int .i64 n2, .slice o2 l2 c2] 25))
  have TR22a1 := Lib.hid (TR2.out.butt HLT.out (Butt.of_below A2.out.fix.lt ((Below.refl _ _).alloc (Nat.le_refl _) (Obj.cells #[.int .i64 k2, .int .i64 a2, .string t2, .int .i64 n2, .slice o2 l2 c2] 25))))
  have PXC : Hid (w2.heap.size ≠ R) := Lib.hid (fun e => absurd (A2.out.fix.lt) (by rw [e]; exact Nat.lt_irrefl _))
  have XC2a1 := Lib.hid (Bx5.new w2 (.int .i64 k2) (.int .i64 a2) (.string t2) (.int .i64 n2) (.slice o2 l2 c2))
  have HTP : Hid (w1.heap.size ≠ w.heap.size) := Lib.hid (fun e => by have := XR1.out.lt; omega)
  have HCP : Hid (w2.heap.size ≠ w.heap.size) := Lib.hid (fun e => by have := XR2.out.lt; omega)
  go_wp2_with fail
  generalize w2.alloc (Obj.cells #[.int .i64 k2, .int .i64 a2, .string t2, .int .i64 n2, .slice o2 l2 c2] 25) = WA at *
  have AD := Lib.hid (A2a1.out.below (Below.refl _ _).drew); have BD := Lib.hid (B2a1.out.drew)
  have XRD := Lib.hid (XR2a1.out.below (Below.refl _ _).drew)
  have TTD := Lib.hid (TT2a1.out.below (Below.refl _ _).drew)
  have XCD := Lib.hid (XC2a1.out.below (Below.refl _ _).drew)
  have TR2D := Lib.hid (TR22a1.out.butt HLT.out (Butt.refl R WA).drew)
  have HLW : Hid (w.heap.size ≤ WA.heap.size) := Lib.hid (Nat.le_trans (Nat.le_refl _) B2a1.out.size)
  have zTT := TT2a1.out
  have yTT0 := zTT.c0
  have yTT1 := zTT.c1
  have yTT2 := zTT.c2
  clear zTT
  have zXC := XC2a1.out
  have yXC0 := zXC.c0
  have yXC1 := zXC.c1
  have yXC2 := zXC.c2
  have yXC3 := zXC.c3
  have yXC4 := zXC.c4
  clear zXC
  have SD : World.cell? (WA.drew) ⟨(w1.heap.size), 0, none⟩ = some (.int .i64 ek) ∧ World.cell? (WA.drew) ⟨(w1.heap.size), 1, none⟩ = some (.string et) ∧ World.cell? (WA.drew) ⟨(w1.heap.size), 2, none⟩ = some (.int .i64 ea) ∧ World.cell? (WA.drew) ⟨(w2.heap.size), 0, none⟩ = some (.int .i64 k2) ∧ World.cell? (WA.drew) ⟨(w2.heap.size), 1, none⟩ = some (.int .i64 a2) ∧ World.cell? (WA.drew) ⟨(w2.heap.size), 2, none⟩ = some (.string t2) ∧ World.cell? (WA.drew) ⟨(w2.heap.size), 3, none⟩ = some (.int .i64 n2) ∧ World.cell? (WA.drew) ⟨(w2.heap.size), 4, none⟩ = some (.slice o2 l2 c2) := ⟨TTD.out.c0, TTD.out.c1, TTD.out.c2, XCD.out.c0, XCD.out.c1, XCD.out.c2, XCD.out.c3, XCD.out.c4⟩
  go_region_held3 (fun w' => World.cell? w' ⟨(w1.heap.size), 0, none⟩ = some (.int .i64 ek) ∧ World.cell? w' ⟨(w1.heap.size), 1, none⟩ = some (.string et) ∧ World.cell? w' ⟨(w1.heap.size), 2, none⟩ = some (.int .i64 ea) ∧ World.cell? w' ⟨(w2.heap.size), 0, none⟩ = some (.int .i64 k2) ∧ World.cell? w' ⟨(w2.heap.size), 1, none⟩ = some (.int .i64 a2) ∧ World.cell? w' ⟨(w2.heap.size), 2, none⟩ = some (.string t2) ∧ World.cell? w' ⟨(w2.heap.size), 3, none⟩ = some (.int .i64 n2) ∧ World.cell? w' ⟨(w2.heap.size), 4, none⟩ = some (.slice o2 l2 c2)) (first | (with_reducible exact SD) | (with_reducible exact SA) | (with_reducible exact SB) | (with_reducible exact SC) | (with_reducible exact SE) | fail) (first | (go_at_call 152; (with_reducible first | refine (KQ.out _ A2a1.out).mono ?_ | refine (KQ.out _ AD.out).mono ?_); rintro e w3 ⟨x3, v3, s3, rfl, hx3, hs3, ha3, hb3⟩; obtain ⟨k3, a3, t3, n3, o3, l3, c3, q3, rfl, rfl, hk3⟩ := hx3.shape; have HS3 := Lib.hid hs3; have A3 := Lib.hid ha3; have B3 := Lib.hid ((by with_reducible first | exact B2a1.out.trans hb3 | exact BD.out.trans hb3) : Butt R w w3); have TR3 := Lib.hid ((by first | exact synIn.of (ps := [w.heap.size]) hx3 HLW.out (fun p hp => by simp only [List.mem_cons, List.not_mem_nil, or_false] at hp; have g0 := XR2a1.out.lt; omega) | exact synIn.of (ps := [w.heap.size]) (show synAt WA.heap.size w3 _ _ from hx3) HLW.out (fun p hp => by simp only [List.mem_cons, List.not_mem_nil, or_false] at hp; have g0 := XR2a1.out.lt; omega)) : synIn (offs w.heap.size [w.heap.size]) w3 (.mk k3 a3 t3 n3 q3) (.agg #[.int .i64 k3, .int .i64 a3, .string t3, .int .i64 n3, .slice o3 l3 c3])); have XR3 := Lib.hid ((by with_reducible first | exact XR2a1.out.butt HPR.out hb3 | exact XRD.out.butt HPR.out hb3) : Bx5 w3 w.heap.size (.int .i64 0) (.int .i64 0) (.string ⟨#[]⟩) (.int .i64 0) (.slice none 0 0)); have TT3 := Lib.hid ((by with_reducible first | exact TT2a1.out.butt PTT.out hb3 | exact TTD.out.butt PTT.out hb3) : Bx3 w3 (w1.heap.size) (.int .i64 ek) (.string et) (.int .i64 ea)); have XC3 := Lib.hid ((by with_reducible first | exact XC2a1.out.butt PXC.out hb3 | exact XCD.out.butt PXC.out hb3) : Bx5 w3 (w2.heap.size) (.int .i64 k2) (.int .i64 a2) (.string t2) (.int .i64 n2) (.slice o2 l2 c2)); have TR23 := Lib.hid ((by with_reducible first | exact TR22a1.out.butt HLT.out hb3 | exact TR2D.out.butt HLT.out hb3) : synIn (offs w.heap.size [w.heap.size]) w3 (.mk k2 a2 t2 n2 q2) (.agg #[.int .i64 k2, .int .i64 a2, .string t2, .int .i64 n2, .slice o2 l2 c2])); have uTT0 := TT3.out.c0; have uTT1 := TT3.out.c1; have uTT2 := TT3.out.c2; have lTT := TT3.out.lt; have mTT := Nat.ne_of_lt lTT; have uXC0 := XC3.out.c0; have uXC1 := XC3.out.c1; have uXC2 := XC3.out.c2; have uXC3 := XC3.out.c3; have uXC4 := XC3.out.c4; have lXC := XC3.out.lt; have mXC := Nat.ne_of_lt lXC; have SA : World.cell? w3 ⟨(w1.heap.size), 0, none⟩ = some (.int .i64 ek) ∧ World.cell? w3 ⟨(w1.heap.size), 1, none⟩ = some (.string et) ∧ World.cell? w3 ⟨(w1.heap.size), 2, none⟩ = some (.int .i64 ea) ∧ World.cell? w3 ⟨(w2.heap.size), 0, none⟩ = some (.int .i64 k2) ∧ World.cell? w3 ⟨(w2.heap.size), 1, none⟩ = some (.int .i64 a2) ∧ World.cell? w3 ⟨(w2.heap.size), 2, none⟩ = some (.string t2) ∧ World.cell? w3 ⟨(w2.heap.size), 3, none⟩ = some (.int .i64 n2) ∧ World.cell? w3 ⟨(w2.heap.size), 4, none⟩ = some (.slice o2 l2 c2) := ⟨TT3.out.c0, TT3.out.c1, TT3.out.c2, XC3.out.c0, XC3.out.c1, XC3.out.c2, XC3.out.c3, XC3.out.c4⟩; have SB : World.cell? (w3.alloc (Obj.cells #[.int .i64 k2, .int .i64 a2, .string t2, .int .i64 n2, .slice o2 l2 c2, .int .i64 k3, .int .i64 a3, .string t3, .int .i64 n3, .slice o3 l3 c3] 25)) ⟨(w1.heap.size), 0, none⟩ = some (.int .i64 ek) ∧ World.cell? (w3.alloc (Obj.cells #[.int .i64 k2, .int .i64 a2, .string t2, .int .i64 n2, .slice o2 l2 c2, .int .i64 k3, .int .i64 a3, .string t3, .int .i64 n3, .slice o3 l3 c3] 25)) ⟨(w1.heap.size), 1, none⟩ = some (.string et) ∧ World.cell? (w3.alloc (Obj.cells #[.int .i64 k2, .int .i64 a2, .string t2, .int .i64 n2, .slice o2 l2 c2, .int .i64 k3, .int .i64 a3, .string t3, .int .i64 n3, .slice o3 l3 c3] 25)) ⟨(w1.heap.size), 2, none⟩ = some (.int .i64 ea) ∧ World.cell? (w3.alloc (Obj.cells #[.int .i64 k2, .int .i64 a2, .string t2, .int .i64 n2, .slice o2 l2 c2, .int .i64 k3, .int .i64 a3, .string t3, .int .i64 n3, .slice o3 l3 c3] 25)) ⟨(w2.heap.size), 0, none⟩ = some (.int .i64 k2) ∧ World.cell? (w3.alloc (Obj.cells #[.int .i64 k2, .int .i64 a2, .string t2, .int .i64 n2, .slice o2 l2 c2, .int .i64 k3, .int .i64 a3, .string t3, .int .i64 n3, .slice o3 l3 c3] 25)) ⟨(w2.heap.size), 1, none⟩ = some (.int .i64 a2) ∧ World.cell? (w3.alloc (Obj.cells #[.int .i64 k2, .int .i64 a2, .string t2, .int .i64 n2, .slice o2 l2 c2, .int .i64 k3, .int .i64 a3, .string t3, .int .i64 n3, .slice o3 l3 c3] 25)) ⟨(w2.heap.size), 2, none⟩ = some (.string t2) ∧ World.cell? (w3.alloc (Obj.cells #[.int .i64 k2, .int .i64 a2, .string t2, .int .i64 n2, .slice o2 l2 c2, .int .i64 k3, .int .i64 a3, .string t3, .int .i64 n3, .slice o3 l3 c3] 25)) ⟨(w2.heap.size), 3, none⟩ = some (.int .i64 n2) ∧ World.cell? (w3.alloc (Obj.cells #[.int .i64 k2, .int .i64 a2, .string t2, .int .i64 n2, .slice o2 l2 c2, .int .i64 k3, .int .i64 a3, .string t3, .int .i64 n3, .slice o3 l3 c3] 25)) ⟨(w2.heap.size), 4, none⟩ = some (.slice o2 l2 c2) := ⟨(TT3.out.alloc (Obj.cells #[.int .i64 k2, .int .i64 a2, .string t2, .int .i64 n2, .slice o2 l2 c2, .int .i64 k3, .int .i64 a3, .string t3, .int .i64 n3, .slice o3 l3 c3] 25)).c0, (TT3.out.alloc (Obj.cells #[.int .i64 k2, .int .i64 a2, .string t2, .int .i64 n2, .slice o2 l2 c2, .int .i64 k3, .int .i64 a3, .string t3, .int .i64 n3, .slice o3 l3 c3] 25)).c1, (TT3.out.alloc (Obj.cells #[.int .i64 k2, .int .i64 a2, .string t2, .int .i64 n2, .slice o2 l2 c2, .int .i64 k3, .int .i64 a3, .string t3, .int .i64 n3, .slice o3 l3 c3] 25)).c2, (XC3.out.alloc (Obj.cells #[.int .i64 k2, .int .i64 a2, .string t2, .int .i64 n2, .slice o2 l2 c2, .int .i64 k3, .int .i64 a3, .string t3, .int .i64 n3, .slice o3 l3 c3] 25)).c0, (XC3.out.alloc (Obj.cells #[.int .i64 k2, .int .i64 a2, .string t2, .int .i64 n2, .slice o2 l2 c2, .int .i64 k3, .int .i64 a3, .string t3, .int .i64 n3, .slice o3 l3 c3] 25)).c1, (XC3.out.alloc (Obj.cells #[.int .i64 k2, .int .i64 a2, .string t2, .int .i64 n2, .slice o2 l2 c2, .int .i64 k3, .int .i64 a3, .string t3, .int .i64 n3, .slice o3 l3 c3] 25)).c2, (XC3.out.alloc (Obj.cells #[.int .i64 k2, .int .i64 a2, .string t2, .int .i64 n2, .slice o2 l2 c2, .int .i64 k3, .int .i64 a3, .string t3, .int .i64 n3, .slice o3 l3 c3] 25)).c3, (XC3.out.alloc (Obj.cells #[.int .i64 k2, .int .i64 a2, .string t2, .int .i64 n2, .slice o2 l2 c2, .int .i64 k3, .int .i64 a3, .string t3, .int .i64 n3, .slice o3 l3 c3] 25)).c4⟩; clear ha3 hb3 hx3 hk3 hs3) | (go_at_call 59; refine (pnode_any _ _ _ _ _ _ _).mono ?_; rintro e w4 ⟨rfl, hb4⟩; have HBR := Lib.hid hb4; have hbx : Below w3.heap.size w3 w4 := Below.chain ((Below.refl _ _).alloc (Nat.le_refl _) _) hb4; have HBX := Lib.hid hbx; obtain ⟨g0, g1, g2, g3, g4, gf, gl⟩ := XR3.out.below hbx; have gf0 := gf 0; have gf1 := gf 1; have gf2 := gf 2; have gf3 := gf 3; have gf4 := gf 4; have SC : World.cell? w4 ⟨(w1.heap.size), 0, none⟩ = some (.int .i64 ek) ∧ World.cell? w4 ⟨(w1.heap.size), 1, none⟩ = some (.string et) ∧ World.cell? w4 ⟨(w1.heap.size), 2, none⟩ = some (.int .i64 ea) ∧ World.cell? w4 ⟨(w2.heap.size), 0, none⟩ = some (.int .i64 k2) ∧ World.cell? w4 ⟨(w2.heap.size), 1, none⟩ = some (.int .i64 a2) ∧ World.cell? w4 ⟨(w2.heap.size), 2, none⟩ = some (.string t2) ∧ World.cell? w4 ⟨(w2.heap.size), 3, none⟩ = some (.int .i64 n2) ∧ World.cell? w4 ⟨(w2.heap.size), 4, none⟩ = some (.slice o2 l2 c2) := ⟨(TT3.out.below HBX.out).c0, (TT3.out.below HBX.out).c1, (TT3.out.below HBX.out).c2, (XC3.out.below HBX.out).c0, (XC3.out.below HBX.out).c1, (XC3.out.below HBX.out).c2, (XC3.out.below HBX.out).c3, (XC3.out.below HBX.out).c4⟩; have FT := Lib.hid (store5 HA0.out (B3.out.trans (Butt.of_below A3.out.fix.lt HBX.out)) (A3.out.below HBX.out) (XR3.out.below HBX.out) (Nat.le_refl _) (.int .i64 12) (.int .i64 ea) (.string ⟨#[]⟩) (.int .i64 0) (.slice (some ⟨w3.heap.size, 0, none⟩) 2 2) _ rfl); have ZTT := (TT3.out.below HBX.out).kept HTP.out FT.out.2.2.2; have ZXC := (XC3.out.below HBX.out).kept HCP.out FT.out.2.2.2; have SE : World.cell? (((((w4.setCell ⟨w.heap.size, 0, none⟩ (.int .i64 12)).setCell ⟨w.heap.size, 1, none⟩ (.int .i64 ea)).setCell ⟨w.heap.size, 2, none⟩ (.string ⟨#[]⟩)).setCell ⟨w.heap.size, 3, none⟩ (.int .i64 0)).setCell ⟨w.heap.size, 4, none⟩ (.slice (some ⟨w3.heap.size, 0, none⟩) 2 2)) ⟨(w1.heap.size), 0, none⟩ = some (.int .i64 ek) ∧ World.cell? (((((w4.setCell ⟨w.heap.size, 0, none⟩ (.int .i64 12)).setCell ⟨w.heap.size, 1, none⟩ (.int .i64 ea)).setCell ⟨w.heap.size, 2, none⟩ (.string ⟨#[]⟩)).setCell ⟨w.heap.size, 3, none⟩ (.int .i64 0)).setCell ⟨w.heap.size, 4, none⟩ (.slice (some ⟨w3.heap.size, 0, none⟩) 2 2)) ⟨(w1.heap.size), 1, none⟩ = some (.string et) ∧ World.cell? (((((w4.setCell ⟨w.heap.size, 0, none⟩ (.int .i64 12)).setCell ⟨w.heap.size, 1, none⟩ (.int .i64 ea)).setCell ⟨w.heap.size, 2, none⟩ (.string ⟨#[]⟩)).setCell ⟨w.heap.size, 3, none⟩ (.int .i64 0)).setCell ⟨w.heap.size, 4, none⟩ (.slice (some ⟨w3.heap.size, 0, none⟩) 2 2)) ⟨(w1.heap.size), 2, none⟩ = some (.int .i64 ea) ∧ World.cell? (((((w4.setCell ⟨w.heap.size, 0, none⟩ (.int .i64 12)).setCell ⟨w.heap.size, 1, none⟩ (.int .i64 ea)).setCell ⟨w.heap.size, 2, none⟩ (.string ⟨#[]⟩)).setCell ⟨w.heap.size, 3, none⟩ (.int .i64 0)).setCell ⟨w.heap.size, 4, none⟩ (.slice (some ⟨w3.heap.size, 0, none⟩) 2 2)) ⟨(w2.heap.size), 0, none⟩ = some (.int .i64 k2) ∧ World.cell? (((((w4.setCell ⟨w.heap.size, 0, none⟩ (.int .i64 12)).setCell ⟨w.heap.size, 1, none⟩ (.int .i64 ea)).setCell ⟨w.heap.size, 2, none⟩ (.string ⟨#[]⟩)).setCell ⟨w.heap.size, 3, none⟩ (.int .i64 0)).setCell ⟨w.heap.size, 4, none⟩ (.slice (some ⟨w3.heap.size, 0, none⟩) 2 2)) ⟨(w2.heap.size), 1, none⟩ = some (.int .i64 a2) ∧ World.cell? (((((w4.setCell ⟨w.heap.size, 0, none⟩ (.int .i64 12)).setCell ⟨w.heap.size, 1, none⟩ (.int .i64 ea)).setCell ⟨w.heap.size, 2, none⟩ (.string ⟨#[]⟩)).setCell ⟨w.heap.size, 3, none⟩ (.int .i64 0)).setCell ⟨w.heap.size, 4, none⟩ (.slice (some ⟨w3.heap.size, 0, none⟩) 2 2)) ⟨(w2.heap.size), 2, none⟩ = some (.string t2) ∧ World.cell? (((((w4.setCell ⟨w.heap.size, 0, none⟩ (.int .i64 12)).setCell ⟨w.heap.size, 1, none⟩ (.int .i64 ea)).setCell ⟨w.heap.size, 2, none⟩ (.string ⟨#[]⟩)).setCell ⟨w.heap.size, 3, none⟩ (.int .i64 0)).setCell ⟨w.heap.size, 4, none⟩ (.slice (some ⟨w3.heap.size, 0, none⟩) 2 2)) ⟨(w2.heap.size), 3, none⟩ = some (.int .i64 n2) ∧ World.cell? (((((w4.setCell ⟨w.heap.size, 0, none⟩ (.int .i64 12)).setCell ⟨w.heap.size, 1, none⟩ (.int .i64 ea)).setCell ⟨w.heap.size, 2, none⟩ (.string ⟨#[]⟩)).setCell ⟨w.heap.size, 3, none⟩ (.int .i64 0)).setCell ⟨w.heap.size, 4, none⟩ (.slice (some ⟨w3.heap.size, 0, none⟩) 2 2)) ⟨(w2.heap.size), 4, none⟩ = some (.slice o2 l2 c2) := ⟨ZTT.c0, ZTT.c1, ZTT.c2, ZXC.c0, ZXC.c1, ZXC.c2, ZXC.c3, ZXC.c4⟩; clear ZTT; clear ZXC; clear gf gl hbx hb4))
  have hAw : offs w.heap.size [w.heap.size] w3.heap.size := ⟨Nat.le_trans (Nat.le_refl _) B3.out.size, fun hp => by simp only [List.mem_cons, List.not_mem_nil, or_false] at hp; have g0 := XR3.out.lt; omega⟩
  have KI := Lib.hid (kidsIn_new (flatIn.cons (TR23.out) (flatIn.one (TR3.out))) (by simp) hAw 2 rfl); clear hAw
  have TN := Lib.hid (synIn_mk.mpr ⟨_, rfl, KI.out.below HBR.out⟩ : synIn (offs w.heap.size [w.heap.size]) w4 (.mk 12 ea ⟨#[]⟩ 0 [(.mk k2 a2 t2 n2 q2), (.mk k3 a3 t3 n3 q3)]) _)
  have AN := Lib.hid (A3.out.below HBX.out); have BN := Lib.hid (B3.out.trans (Butt.of_below A3.out.fix.lt HBX.out)); have XN := Lib.hid (XR3.out.below HBX.out)
  have GX := Lib.hid ((TN.out).kept (by simp) FT.out.2.2.2).at
  obtain ⟨r0, r1, r2, r3, r4⟩ := FT.out.1
  have GA := Lib.hid FT.out.2.1; have GB := Lib.hid FT.out.2.2.1
  clear FT g0 g1 g2 g3 g4 gf0 gf1 gf2 gf3 gf4
  go_wp2
  refine bodyPost_ret (by simp [results, Tryz.results124, go_sem, r0, r1, r2, r3, r4]; rfl) rfl ?_
  exact ⟨_, _, _, rfl, GX.out, HM.out _ _ _ _ HS2.out HS3.out, GA.out, GB.out⟩
end Go.Proofs.YtdibcllakkjegaaGreatDoor
