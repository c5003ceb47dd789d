import Derived.Test.YtdibcllakkjegaaGreatDoorCut9

set_option linter.unusedVariables false
/-
  parser: trees off some blocks; stores into boxes; rows that are made.
-/
set_option linter.unusedSimpArgs false
set_option linter.unusedVariables false
namespace Go.Proofs.YtdibcllakkjegaaGreatDoor
open Go Go.Proofs Go.RowKit
def offs (lo : Nat) (ps : List Nat) : Nat → Prop := fun b => lo ≤ b ∧ b ∉ ps
theorem synIn.butt {R lo : Nat} {ps : List Nat} {W W' : World} {x : Syn} {v : Value} (h : synIn (offs lo ps) W x v) (hR : R < lo) (hb : Butt R W W') : synIn (offs lo ps) W' x v :=
  synIn.keep ⟨hb.size, fun k hk h => hb.block k h (by have := hk.1; omega)⟩ (fun _ h _ => h) x v h
theorem synIn.of {lo l2 : Nat} {ps : List Nat} {W : World} {x : Syn} {v : Value} (h : synAt lo W x v) (hl : l2 ≤ lo) (hp : ∀ p ∈ ps, p < lo) : synIn (offs l2 ps) W x v :=
  synIn.keep ⟨Nat.le_refl _, fun _ _ _ => rfl⟩ (fun k hk _ => ⟨Nat.le_trans hl hk, fun hm => absurd (hp k hm) (Nat.not_lt.mpr hk)⟩) x v (synIn_at x v |>.mpr h)
theorem synIn.cons {lo q : Nat} {ps : List Nat} {W : World} {x : Syn} {v : Value} (h : synIn (offs lo ps) W x v) (hq : W.heap.size ≤ q) : synIn (offs lo (q :: ps)) W x v :=
  synIn.keep ⟨Nat.le_refl _, fun _ _ _ => rfl⟩ (fun k hk hlt => ⟨hk.1, fun hm => by
    rcases List.mem_cons.mp hm with e | e
    · omega
    · exact hk.2 e⟩) x v h
theorem synIn.at {lo : Nat} {ps : List Nat} {W : World} {x : Syn} {v : Value} (h : synIn (offs lo ps) W x v) : synAt lo W x v :=
  synIn_at x v |>.mp (synIn.keep ⟨Nat.le_refl _, fun _ _ _ => rfl⟩ (fun k hk _ => hk.1) x v h)
theorem synIn.weak {lo q : Nat} {ps : List Nat} {W : World} {x : Syn} {v : Value} (h : synIn (offs lo (q :: ps)) W x v) : synIn (offs lo ps) W x v :=
  synIn.keep ⟨Nat.le_refl _, fun _ _ _ => rfl⟩ (fun k hk _ => ⟨hk.1, fun hm => hk.2 (List.mem_cons_of_mem _ hm)⟩) x v h
theorem synIn.kept {lo q : Nat} {ps : List Nat} {W W' : World} {x : Syn} {v : Value} (h : synIn (offs lo ps) W x v) (hq : q ∈ ps) (hb : Kept (· ≠ q) W W') : synIn (offs lo ps) W' x v :=
  synIn.keep ⟨hb.size, fun k hk h => hb.block k (fun e => hk.2 (e ▸ hq)) h⟩ (fun _ h _ => h) x v h
theorem synIn.shape {A : Nat → Prop} {W : World} {x : Syn} {v : Value} (h : synIn A W x v) : ∃ k a t n ao l c ks, x = .mk k a t n ks ∧ v = .agg #[.int .i64 k, .int .i64 a, .string t, .int .i64 n, .slice ao l c] := by
  obtain ⟨k, a, t, n, ks⟩ := x
  rw [synIn] at h
  obtain ⟨kv, rfl, h⟩ := h
  rcases h with ⟨-, rfl⟩ | ⟨b, c, rfl, -⟩
  · exact ⟨k, a, t, n, _, _, _, ks, rfl, rfl⟩
  · exact ⟨k, a, t, n, _, _, _, ks, rfl, rfl⟩
def kidsIn (A : Nat → Prop) (W : World) (kids : List Syn) (kv : Value) : Prop :=
  (kids.length = 0 ∧ kv = .slice none 0 0) ∨ ∃ b c, kv = .slice (some ⟨b, 0, none⟩) kids.length c ∧ kids.length ≤ c ∧ c ≤ maxLen ∧ A b ∧ b < W.heap.size ∧ rowIn A W kids b 0
theorem synIn_mk {A : Nat → Prop} {W : World} {k a n : Int} {t : ByteArray} {kids : List Syn} {v : Value} : synIn A W (.mk k a t n kids) v ↔ ∃ kv, v = .agg #[.int .i64 k, .int .i64 a, .string t, .int .i64 n, kv] ∧ kidsIn A W kids kv := by
  rw [synIn]
  rfl
theorem kidsIn.keep {A B : Nat → Prop} {W W' : World} (hb : Kept A W W') (hl : ∀ k, A k → k < W.heap.size → B k) {kids : List Syn} {kv : Value} (h : kidsIn A W kids kv) : kidsIn B W' kids kv := by
  refine h.imp_right ?_
  rintro ⟨b, c, e1, h1, h2, h3, h4, h5⟩
  exact ⟨b, c, e1, h1, h2, hl b h3 h4, Nat.lt_of_lt_of_le h4 hb.size, rowIn.keep hb hl kids b 0 h3 h4 h5⟩
theorem kidsIn_new {A : Nat → Prop} {W : World} {xs : List Syn} {cs : List Value} (h : flatIn A W xs cs) (hl : xs.length ≤ 100) (hA : A W.heap.size) (n : Nat) (hn : xs.length = n) :
    kidsIn A (W.alloc (Obj.cells cs.toArray 25)) xs (.slice (some ⟨W.heap.size, 0, none⟩) n n) := by
  subst hn
  have hk : Kept A W (W.alloc (Obj.cells cs.toArray 25)) := by
    have hb := (Below.refl W.heap.size W).alloc (Nat.le_refl _) (Obj.cells cs.toArray 25)
    exact ⟨hb.size, fun k _ h => hb.block k h⟩
  refine .inr ⟨W.heap.size, xs.length, rfl, Nat.le_refl _, by unfold maxLen; omega, hA, by simp, ?_⟩
  refine flat_row xs cs 0 (flatIn.keep hk (fun _ h _ => h) _ _ h) fun j u hu => ?_
  rw [Nat.zero_add]
  have e := World.cell?_alloc_new W cs.toArray 25 j
  rw [e]
  simpa using hu
theorem kidsIn.below {A : Nat → Prop} {W W' : World} {kids : List Syn} {kv : Value} (h : kidsIn A W kids kv) (hb : Below W.heap.size W W') : kidsIn A W' kids kv :=
  h.keep ⟨hb.size, fun k _ h => hb.block k h⟩ (fun _ h _ => h)
theorem flatIn.one {A : Nat → Prop} {W : World} {x : Syn} {v0 v1 v2 v3 v4 : Value} (h : synIn A W x (.agg #[v0, v1, v2, v3, v4])) : flatIn A W [x] [v0, v1, v2, v3, v4] := ⟨v0, v1, v2, v3, v4, [], rfl, h, rfl⟩
theorem flatIn.cons {A : Nat → Prop} {W : World} {x : Syn} {xs : List Syn} {cs : List Value} {v0 v1 v2 v3 v4 : Value} (h : synIn A W x (.agg #[v0, v1, v2, v3, v4])) (hr : flatIn A W xs cs) : flatIn A W (x :: xs) (v0 :: v1 :: v2 :: v3 :: v4 :: cs) := ⟨v0, v1, v2, v3, v4, cs, rfl, h, hr⟩
theorem Bx5.kept {p q : Nat} {W W' : World} {v0 v1 v2 v3 v4 : Value} (h : Bx5 W p v0 v1 v2 v3 v4) (hp : p ≠ q) (hb : Kept (· ≠ q) W W') : Bx5 W' p v0 v1 v2 v3 v4 := by
  obtain ⟨c0, c1, c2, c3, c4, hf, hl⟩ := h
  exact ⟨(hb.cell (p := ⟨p, 0, none⟩) hp hl).trans c0, (hb.cell (p := ⟨p, 1, none⟩) hp hl).trans c1, (hb.cell (p := ⟨p, 2, none⟩) hp hl).trans c2, (hb.cell (p := ⟨p, 3, none⟩) hp hl).trans c3, (hb.cell (p := ⟨p, 4, none⟩) hp hl).trans c4, fun j => (by simp only [World.frozen?, hb.block p hp hl] : W'.frozen? ⟨p, j, none⟩ = W.frozen? ⟨p, j, none⟩).trans (hf j), Nat.lt_of_lt_of_le hl hb.size⟩
theorem Kept.refl (A : Nat → Prop) (W : World) : Kept A W W := ⟨Nat.le_refl _, fun _ _ _ => rfl⟩
theorem Kept.setCell {A : Nat → Prop} {a W : World} (h : Kept A a W) (p : Addr) (hp : ¬ A p.block) (v : Value) : Kept A a (W.setCell p v) := by
  refine ⟨by have := h.size; simpa using this, fun k h1 h2 => ?_⟩
  rw [← h.block k h1 h2]
  show (W.heap.modify p.block _)[k]? = _
  rw [Array.getElem?_modify, if_neg (fun e => hp (by rw [e]; exact h1))]
theorem store5 {R : Nat} {L : List Tk} {d0 d q : Nat} {st0 st : RSt} {w W : World} {u0 u1 u2 u3 u4 : Value} (h0 : At R L w d0 st0) (hb : Butt R w W) (ha : At R L W d st) (hB : Bx5 W q u0 u1 u2 u3 u4) (hq : w.heap.size ≤ q)
    (v0 v1 v2 v3 v4 : Value) (W' : World) (hW : W' = ((((W.setCell ⟨q, 0, none⟩ v0).setCell ⟨q, 1, none⟩ v1).setCell ⟨q, 2, none⟩ v2).setCell ⟨q, 3, none⟩ v3).setCell ⟨q, 4, none⟩ v4) :
    Bx5 W' q v0 v1 v2 v3 v4 ∧ At R L W' d st ∧ Butt R w W' ∧ Kept (· ≠ q) W W' := by
  obtain ⟨q0, q1, q2, q3, q4⟩ := box5 hB.c0 hB.c1 hB.c2 hB.c3 hB.c4 v0 v1 v2 v3 v4 W' hW
  obtain ⟨hf0, nx0, a0, er0, h01, h02, h03⟩ := h0
  obtain ⟨hf, nx, a, er, h1, h2, h3⟩ := ha
  obtain ⟨hr, hbt⟩ := boxed5 h02 hb h2 hq v0 v1 v2 v3 v4
  rw [← hW] at hr hbt
  have hfr : ∀ j, W'.frozen? ⟨q, j, none⟩ = false := fun j => by
    rw [hW]
    exact (World.frozen?_setCell _ _ _ _).trans ((World.frozen?_setCell _ _ _ _).trans ((World.frozen?_setCell _ _ _ _).trans ((World.frozen?_setCell _ _ _ _).trans ((World.frozen?_setCell _ _ _ _).trans (hB.free j)))))
  have hsz : W'.heap.size = W.heap.size := by rw [hW]; simp
  refine ⟨⟨q0, q1, q2, q3, q4, hfr, by rw [hsz]; exact hB.lt⟩, ⟨hf0.butt hbt, nx, a, er, h1, hr, h3⟩, hbt, ?_⟩
  rw [hW]
  exact (((((Kept.refl _ W).setCell ⟨q, 0, none⟩ (fun h => h rfl) v0).setCell ⟨q, 1, none⟩ (fun h => h rfl) v1).setCell ⟨q, 2, none⟩ (fun h => h rfl) v2).setCell ⟨q, 3, none⟩ (fun h => h rfl) v3).setCell ⟨q, 4, none⟩ (fun h => h rfl) v4
end Go.Proofs.YtdibcllakkjegaaGreatDoor

set_option linter.unusedSimpArgs false
set_option linter.unusedVariables false
namespace Go.Proofs.YtdibcllakkjegaaGreatDoor
open Go Go.Proofs Go.RowKit Go.Sort
set_option maxRecDepth 20000 in
set_option maxHeartbeats 1000000 in
theorem poperation {R : Nat} {L : List Tk} {d : Nat} {st : RSt} {w : World} (i lo : Nat) (hi : i < 8) (at_ : Int) (h : At R L w d st) (hlo : R < lo ∧ lo ≤ w.heap.size) (ps : List Nat) (hps : ∀ p ∈ ps, p < w.heap.size) (K : GT 77 R L #[.pointer (some ⟨R, 0, none⟩), .int .i64 ((i : Int) + 1)] (.lvl (i + 1)) d (takeS st))
    (k0 a0 n0 : Int) (t0 : ByteArray) (o0 : Option Addr) (l0 c0 : Nat) (xl : Syn) (hx : synIn (offs lo ps) w xl (.agg #[.int .i64 k0, .int .i64 a0, .string t0, .int .i64 n0, .slice o0 l0 c0])) :
    Calls Tryz.prog 144 #[.pointer (some ⟨R, 0, none⟩), .int .i64 (i : Int), .int .i64 at_, .agg #[.int .i64 k0, .int .i64 a0, .string t0, .int .i64 n0, .slice o0 l0 c0]] w fun e W' =>
      ∃ y v st', e = .returned v ∧ synIn (offs lo ps) W' (.mk 22 at_ (cur L st).t 0 [xl, y]) v ∧ Stp (.lvl (i + 1)) d (takeS st) [y] st' ∧ At R L W' d st' ∧ Butt R w W' := by
  obtain ⟨v1, u1⟩ := wrapB ((i : Int) + 1) (by omega) (by omega)
  have CT := fun W (H : At R L W d st) => stake H
  generalize cur L st = T at *
  obtain ⟨ek, et, ea⟩ := T
  unfold tkA at CT
  dsimp only at *
  have KL := Lib.hid K; have KT := Lib.hid CT
  have HLT := Lib.hid hlo.1; have HRW := Lib.hid h.fix.lt; have HLO := Lib.hid hlo.2; have HA0 := Lib.hid h
  have HXL := Lib.hid (hx.cons (q := w.heap.size + 1) (Nat.le_succ _)); have HPS := Lib.hid hps
  clear K CT hi hx hlo hps
  have hsz : (w.alloc (Obj.cells #[.int .i64 k0, .int .i64 a0, .string t0, .int .i64 n0, .slice o0 l0 c0] 25)).heap.size = w.heap.size + 1 := by simp
  have hX0 := (Bx5.new w (.int .i64 k0) (.int .i64 a0) (.string t0) (.int .i64 n0) (.slice o0 l0 c0)).alloc (Obj.cells #[.int .i64 0, .int .i64 0, .string ⟨#[]⟩, .int .i64 0, .slice none 0 0] 25)
  have hXR := Bx5.new (w.alloc (Obj.cells #[.int .i64 k0, .int .i64 a0, .string t0, .int .i64 n0, .slice o0 l0 c0] 25)) (.int .i64 0) (.int .i64 0) (.string ⟨#[]⟩) (.int .i64 0) (.slice none 0 0)
  rw [hsz] at hXR
  have A0 := Lib.hid ((h.alloc (Obj.cells #[.int .i64 k0, .int .i64 a0, .string t0, .int .i64 n0, .slice o0 l0 c0] 25)).alloc (Obj.cells #[.int .i64 0, .int .i64 0, .string ⟨#[]⟩, .int .i64 0, .slice none 0 0] 25)); have B0 := Lib.hid (((Butt.refl R w).alloc h.fix.lt (Obj.cells #[.int .i64 k0, .int .i64 a0, .string t0, .int .i64 n0, .slice o0 l0 c0] 25)).alloc h.fix.lt (Obj.cells #[.int .i64 0, .int .i64 0, .string ⟨#[]⟩, .int .i64 0, .slice none 0 0] 25))
  have XL0 := Lib.hid hX0; have XR0 := Lib.hid hXR
  have PXL : Hid (w.heap.size ≠ R) := Lib.hid (fun e => absurd h.fix.lt (by rw [e]; exact Nat.lt_irrefl _))
  have HPR : Hid (w.heap.size + 1 ≠ R) := Lib.hid (fun e => absurd h.fix.lt (by omega))
  have TRL := Lib.hid (HXL.out.butt HLT.out B0.out)
  clear hX0 hXR hsz h HXL
  go_enter Tryz.func144, Tryz.ntmps144
  go_wp2_with (go_at_call 110; refine (KT.out _ A0.out).mono ?_; rintro e w1 ⟨rfl, ha1, hb1⟩; refine Hid.out ?_)
  have A1 := Lib.hid ha1; have B1 := Lib.hid (B0.out.trans hb1)
  have XR1 := Lib.hid (XR0.out.butt HPR.out hb1)
  have XL1 := Lib.hid (XL0.out.butt PXL.out hb1)
  have TRL1 := Lib.hid (TRL.out.butt HLT.out hb1)
  clear ha1 hb1
  refine Lib.hid ?_
  have A1a := Lib.hid (A1.out.alloc (Obj.cells #[.int .i64 ek, .string et, .int .i64 ea] 47)); have B1a := Lib.hid (B1.out.alloc HRW.out (Obj.cells #[.int .i64 ek, .string et, .int .i64 ea] 47))
  have XR1a := Lib.hid (XR1.out.alloc (Obj.cells #[.int .i64 ek, .string et, .int .i64 ea] 47))
  have XL1a := Lib.hid (XL1.out.alloc (Obj.cells #[.int .i64 ek, .string et, .int .i64 ea] 47))
  have TRL1a := Lib.hid (TRL1.out.butt HLT.out (Butt.of_below A1.out.fix.lt ((Below.refl _ _).alloc (Nat.le_refl _) (Obj.cells #[.int .i64 ek, .string et, .int .i64 ea] 47))))
  have PTT : Hid (w1.heap.size ≠ R) := Lib.hid (fun e => absurd (A1.out.fix.lt) (by rw [e]; exact Nat.lt_irrefl _))
  have TT1a := Lib.hid (Bx3.new w1 (.int .i64 ek) (.string et) (.int .i64 ea))
  go_wp2_with (go_at_call 77; refine (KL.out _ A1a.out).mono ?_; rintro e w2 ⟨x2, v2, s2, rfl, hx2, hs2, ha2, hb2⟩; refine Hid.out ?_)
  obtain ⟨k2, a2, t2, n2, o2, l2, c2, q2, rfl, rfl, hk2⟩ := hx2.shape
  have HS2 := Lib.hid hs2
  have TR2 := Lib.hid (synIn.of (ps := ((w.heap.size + 1) :: ps)) hx2 (Nat.le_trans HLO.out B1a.out.size) (fun p hp => by have g0 := XR1a.out.lt; have g1 := B1a.out.size; rcases List.mem_cons.mp hp with e | e <;> first | omega | (have := HPS.out p e; omega)))
  have A2 := Lib.hid ha2; have B2 := Lib.hid (B1a.out.trans hb2)
  have XR2 := Lib.hid (XR1a.out.butt HPR.out hb2)
  have XL2 := Lib.hid (XL1a.out.butt PXL.out hb2)
  have TT2 := Lib.hid (TT1a.out.butt PTT.out hb2)
  have TRL2 := Lib.hid (TRL1a.out.butt HLT.out hb2)
  clear ha2 hb2 hx2 hk2 hs2
  refine Lib.hid ?_
  have A2a1 := Lib.hid (A2.out.alloc (Obj.cells #[.int .i64 k2, .int .i64 a2, .string t2, .int .i64 n2, .slice o2 l2 c2] 25)); have B2a1 := Lib.hid (B2.out.alloc HRW.out (Obj.cells #[.int .i64 k2, .int .i64 a2, .string t2, .int .i64 n2, .slice o2 l2 c2] 25))
  have XR2a1 := Lib.hid (XR2.out.alloc (Obj.cells #[.int .i64 k2, .int .i64 a2, .string t2, .int .i64 n2, .slice o2 l2 c2] 25))
  have XL2a1 := Lib.hid (XL2.out.alloc (Obj.cells #[.int .i64 k2, .int .i64 a2, .string t2, .int .i64 n2, .slice o2 l2 c2] 25))
  have TT2a1 := Lib.hid (TT2.out.alloc (Obj.cells #[.int .i64 k2, .int .i64 a2, .string t2, .int .i64 n2, .slice o2 l2 c2] 25))
  have TRL2a1 := Lib.hid (TRL2.out.butt HLT.out (Butt.of_below A2.out.fix.lt ((Below.refl _ _).alloc (Nat.le_refl _) (Obj.cells #[.int .i64 k2, .int .i64 a2, .string t2, .int .i64 n2, .slice o2 l2 c2] 25))))
  have TR22a1 := Lib.hid (TR2.out.butt HLT.out (Butt.of_below A2.out.fix.lt ((Below.refl _ _).alloc (Nat.le_refl _) (Obj.cells #[.int .i64 k2, .int .i64 a2, .string t2, .int .i64 n2, .slice o2 l2 c2] 25))))
  have PXY : Hid (w2.heap.size ≠ R) := Lib.hid (fun e => absurd (A2.out.fix.lt) (by rw [e]; exact Nat.lt_irrefl _))
  have XY2a1 := Lib.hid (Bx5.new w2 (.int .i64 k2) (.int .i64 a2) (.string t2) (.int .i64 n2) (.slice o2 l2 c2))
  have zXL := XL2a1.out
  have yXL0 := zXL.c0
  have yXL1 := zXL.c1
  have yXL2 := zXL.c2
  have yXL3 := zXL.c3
  have yXL4 := zXL.c4
  clear zXL
  have zTT := TT2a1.out
  have yTT0 := zTT.c0
  have yTT1 := zTT.c1
  have yTT2 := zTT.c2
  clear zTT
  have zXY := XY2a1.out
  have yXY0 := zXY.c0
  have yXY1 := zXY.c1
  have yXY2 := zXY.c2
  have yXY3 := zXY.c3
  have yXY4 := zXY.c4
  clear zXY
  have hAw : offs lo ((w.heap.size + 1) :: ps) (w2.alloc (Obj.cells #[.int .i64 k2, .int .i64 a2, .string t2, .int .i64 n2, .slice o2 l2 c2] 25)).heap.size := ⟨Nat.le_trans HLO.out B2a1.out.size, fun hp => by have g0 := XR2a1.out.lt; have g1 := B2a1.out.size; rcases List.mem_cons.mp hp with e | e <;> first | omega | (have := HPS.out _ e; omega)⟩
  have hki := kidsIn_new (flatIn.cons (TRL2a1.out) (flatIn.one (TR22a1.out))) (by simp) hAw 2 rfl
  have hz : (w2.alloc (Obj.cells #[.int .i64 k2, .int .i64 a2, .string t2, .int .i64 n2, .slice o2 l2 c2] 25)).heap.size = w2.heap.size + 1 := by simp
  rw [hz] at hki; clear hz
  have KI := Lib.hid hki
  clear hAw hki
  go_wp2_with (go_at_call 59; refine (pnode_any _ _ _ _ _ _ _).mono ?_; rintro e w3 ⟨rfl, hb3⟩; refine Hid.out ?_)
  have hbx := Butt.of_below (R := R) A2a1.out.fix.lt (Below.chain ((Below.refl _ _).alloc (Nat.le_refl _) (Obj.cells #[.int .i64 k0, .int .i64 a0, .string t0, .int .i64 n0, .slice o0 l0 c0, .int .i64 k2, .int .i64 a2, .string t2, .int .i64 n2, .slice o2 l2 c2] 25)) hb3)
  have ha3 : At R L w3 _ _ := ⟨A2a1.out.fix.butt hbx, A2a1.out.rs.below (Below.chain ((Below.refl _ _).alloc (Nat.le_refl _) (Obj.cells #[.int .i64 k0, .int .i64 a0, .string t0, .int .i64 n0, .slice o0 l0 c0, .int .i64 k2, .int .i64 a2, .string t2, .int .i64 n2, .slice o2 l2 c2] 25)) hb3)⟩
  have TN := Lib.hid (synIn_mk.mpr ⟨_, rfl, KI.out.below hb3⟩ : synIn (offs lo ((w.heap.size + 1) :: ps)) w3 (.mk 22 at_ et 0 [xl, (.mk k2 a2 t2 n2 q2)]) _)
  have hb3 := hbx; clear hbx
  have A3 := Lib.hid ha3; have B3 := Lib.hid (B2a1.out.trans hb3)
  have XR3 := Lib.hid (XR2a1.out.butt HPR.out hb3)
  have XL3 := Lib.hid (XL2a1.out.butt PXL.out hb3)
  have TT3 := Lib.hid (TT2a1.out.butt PTT.out hb3)
  have XY3 := Lib.hid (XY2a1.out.butt PXY.out hb3)
  clear ha3 hb3
  refine Lib.hid ?_
  have FT := Lib.hid (store5 HA0.out B3.out A3.out XR3.out (Nat.le_succ _) (.int .i64 22) (.int .i64 at_) (.string et) (.int .i64 0) (.slice (some ⟨w2.heap.size + 1, 0, none⟩) 2 2) _ rfl)
  have GX := Lib.hid ((TN.out).kept (by simp) FT.out.2.2.2).weak
  have zXR := XR3.out
  have yXR0 := zXR.c0
  have yXR1 := zXR.c1
  have yXR2 := zXR.c2
  have yXR3 := zXR.c3
  have yXR4 := zXR.c4
  have fXR0 := zXR.free 0
  have fXR1 := zXR.free 1
  have fXR2 := zXR.free 2
  have fXR3 := zXR.free 3
  have fXR4 := zXR.free 4
  clear zXR
  obtain ⟨r0, r1, r2, r3, r4⟩ := FT.out.1
  have GA := Lib.hid FT.out.2.1; have GB := Lib.hid FT.out.2.2.1
  clear FT
  go_wp2
  refine bodyPost_ret (by simp [results, Tryz.results144, go_sem, r0, r1, r2, r3, r4]; rfl) rfl ?_
  exact ⟨_, _, _, rfl, GX.out, HS2.out, GA.out, GB.out⟩
end Go.Proofs.YtdibcllakkjegaaGreatDoor

set_option linter.unusedSimpArgs false
set_option linter.unusedVariables false
namespace Go.Proofs.YtdibcllakkjegaaGreatDoor
open Go Go.Proofs Go.RowKit
theorem ba_bytes {s : ByteArray} {l : List UInt8} : s = ⟨l.toArray⟩ ↔ bytes s = l := by
  constructor
  · rintro rfl; simp [bytes]
  · rintro rfl; cases s; simp [bytes]
theorem tIs_eq (L : List Tk) (st : RSt) (l : List UInt8) : tIs L st ⟨l.toArray⟩ = (bytes (cur L st).t == l) := by
  rw [Bool.eq_iff_iff]
  unfold tIs
  rw [Lib.bytes_beq_iff, ba_bytes, beq_iff_eq]
theorem tIs_ok (L : List Tk) (l : List Tk) (s : List UInt8) : tIs L (.ok l) ⟨s.toArray⟩ = pIs s l := tIs_eq L (.ok l) s
theorem tIs_bad {L : List Tk} (hL : TkL L) {a : Int} {e : Nat} {s : List UInt8} (hs : s ≠ []) : tIs L (.bad a e) ⟨s.toArray⟩ = false := by
  rw [tIs_eq, show cur L (.bad a e) = lastT L from rfl, hL.last.2, beq_eq_false_iff_ne]
  exact fun e => hs e.symm
theorem isN_ok (L : List Tk) (l : List Tk) : isN (cur L (.ok l)) = pNamed (pHd l) := by
  unfold isN pNamed
  rw [show cur L (.ok l) = pHd l from rfl]
  congr 1
theorem isN_bad {L : List Tk} (hL : TkL L) {a : Int} {e : Nat} : isN (cur L (.bad a e)) = false := by
  unfold isN
  rw [show cur L (.bad a e) = lastT L from rfl, hL.last.1]
  rfl
theorem isNum_bad {L : List Tk} (hL : TkL L) {a : Int} {e : Nat} : ((cur L (.bad a e)).k == 1) = false := by
  rw [show cur L (.bad a e) = lastT L from rfl, hL.last.1]
  rfl
theorem opB_eq (i : Nat) (t : ByteArray) : Lib.containsS (lvO i) t = (pOps i).contains (bytes t) := by
  rw [Bool.eq_iff_iff, Lib.containsS_iff, List.contains_iff_mem]
  match i with
  | 0 => simp [lvO, pOps, ← ba_bytes]
  | 1 => simp [lvO, pOps, ← ba_bytes]
  | 2 => simp [lvO, pOps, ← ba_bytes]
  | 3 => simp [lvO, pOps, ← ba_bytes]
  | 4 => simp [lvO, pOps, ← ba_bytes]
  | 5 => simp [lvO, pOps, ← ba_bytes]
  | 6 => simp [lvO, pOps, ← ba_bytes]
  | n + 7 => simp [lvO, pOps]
theorem opB_ok (L : List Tk) (i : Nat) (l : List Tk) : Lib.containsS (lvO i) (cur L (.ok l)).t = pOp i l := opB_eq i _
theorem opB_bad {L : List Tk} (hL : TkL L) (i : Nat) {a : Int} {e : Nat} : Lib.containsS (lvO i) (cur L (.bad a e)).t = false := by
  rw [opB_eq, show cur L (.bad a e) = lastT L from rfl, hL.last.2]
  match i with
  | 0 | 1 | 2 | 3 | 4 | 5 | 6 => rfl
  | n + 7 => rfl
theorem pTl_ne {l : List Tk} (h : l ≠ []) : pTl l ≠ [] := by
  match l with
  | [] => exact absurd rfl h
  | [x] => simp [pTl]
  | x :: y :: r => simp [pTl]
theorem pTl_len (l : List Tk) : (pTl l).length ≤ l.length := by
  match l with
  | [] => simp [pTl]
  | [x] => simp [pTl]
  | x :: y :: r => simp [pTl]
def RSt.fine : RSt → Prop
  | .ok l => l ≠ []
  | .bad _ e => e ≠ 0
theorem At.fine {R d : Nat} {L : List Tk} {W : World} {st : RSt} (h : At R L W d st) : st.fine := by
  obtain ⟨nx, a, er, h1, h2, h3⟩ := h.rs
  rcases h3 with ⟨-, -, rfl⟩ | ⟨h9, -, rfl⟩
  · exact fun e => by have := List.drop_eq_nil_iff.mp e; omega
  · exact h9
theorem Run.fine {α : Type} {m : Nat → List Tk → Except (Int × Nat) (α × List Tk)} {st st' : RSt} {x : α} (h : Run m st x st') (hs : st.fine) : st'.fine := by
  cases st with
  | bad a e => rw [show st' = .bad a e from h]; exact hs
  | ok l =>
    rcases h with ⟨l', rfl, h1, -⟩ | ⟨a, e, h1, rfl, -⟩
    · exact h1
    · exact h1
theorem RSt.takeS_fine {st : RSt} (h : st.fine) : (takeS st).fine := by
  cases st with
  | bad a e => exact h
  | ok l => exact pTl_ne h
theorem Run.mk {α : Type} {m : Nat → List Tk → Except (Int × Nat) (α × List Tk)} {st st' : RSt} {x : α} (h1 : ∀ a e, st = .bad a e → st' = .bad a e) (h2 : ∀ l, st = .ok l → Run m (.ok l) x st') : Run m st x st' := by
  cases st with
  | bad a e => exact h1 a e rfl
  | ok l => exact h2 l rfl
theorem st_go {w : Want} {d : Nat} {l l' : List Tk} {xs : List Syn} (h0 : l' ≠ []) (h1 : l'.length ≤ l.length) (N : Nat) (h : ∀ f, N ≤ f → pRead (f + 1) w d l = .ok (xs, l')) : Stp w d (.ok l) xs (.ok l') :=
  .inl ⟨l', rfl, h0, h1, N + 1, fun f hf => by obtain ⟨g, rfl⟩ : ∃ g, f = g + 1 := ⟨f - 1, by omega⟩; exact h g (by omega)⟩
theorem st_err {w : Want} {d e : Nat} {a : Int} {l : List Tk} {xs : List Syn} (h0 : e ≠ 0) (N : Nat) (h : ∀ f, N ≤ f → pRead (f + 1) w d l = .error (a, e)) : Stp w d (.ok l) xs (.bad a e) :=
  .inr ⟨a, e, h0, rfl, N + 1, fun f hf => by obtain ⟨g, rfl⟩ : ∃ g, f = g + 1 := ⟨f - 1, by omega⟩; exact h g (by omega)⟩
theorem elS {w : Want} {d : Nat} {l : List Tk} {xs : List Syn} {st' : RSt} (h : Stp w d (.ok l) xs st') :
    (∃ l', st' = .ok l' ∧ l' ≠ [] ∧ l'.length ≤ l.length ∧ ∃ N, ∀ f, N ≤ f → pRead f w d l = .ok (xs, l')) ∨ (∃ a e, e ≠ 0 ∧ st' = .bad a e ∧ ∃ N, ∀ f, N ≤ f → pRead f w d l = .error (a, e)) := h
theorem st_as {w v : Want} {d c : Nat} {l : List Tk} {xs : List Syn} {st' : RSt} (hs : Stp v c (.ok l) xs st') (h : ∀ f, pRead (f + 1) w d l = pRead f v c l) : Stp w d (.ok l) xs st' := by
  rcases elS hs with ⟨l', rfl, h0, h1, N, hN⟩ | ⟨a, e, he, rfl, N, hN⟩
  · exact st_go h0 h1 N fun f hf => (h f).trans (hN f hf)
  · exact st_err he N fun f hf => (h f).trans (hN f hf)
section
variable {L : List Tk} {st st1 st2 st' : RSt} {d i : Nat} {x y : Syn} {xs ys : List Syn}
theorem st_cmp_no (hL : TkL L) (hs : Stp (.lvl 4) d st [x] st1) (hb : Lib.containsS (lvO 3) (cur L st1).t = false) : Stp (.lvl 3) d st [x] st1 := by
  refine Run.mk (fun a e h => by subst h; exact hs) fun l h => ?_
  subst h
  rcases elS hs with ⟨l', rfl, h0, h1, N, hN⟩ | ⟨a, e, he, rfl, N, hN⟩
  · rw [opB_ok] at hb
    exact st_go h0 h1 N fun f hf => by rw [pRead]; simp [hN f hf, hb, bind, Except.bind, pure, Except.pure]
  · exact st_err he N fun f hf => by rw [pRead]; simp [hN f hf, bind, Except.bind]
theorem st_cmp_yes (hL : TkL L) (hs : Stp (.lvl 4) d st [x] st1) (hb : Lib.containsS (lvO 3) (cur L st1).t = true) (hy : Stp (.lvl 4) d (takeS st1) [y] st') : Stp (.lvl 3) d st [.mk 22 (cur L st).a (cur L st1).t 0 [x, y]] st' := by
  cases st with
  | bad a e => rw [show st1 = .bad a e from hs, opB_bad hL] at hb; cases hb
  | ok l =>
    rcases elS hs with ⟨l1, rfl, h0, h1, N, hN⟩ | ⟨a, e, he, rfl, N, hN⟩
    · rw [opB_ok] at hb
      have hl := pTl_len l1
      rcases elS hy with ⟨l2, rfl, g0, g1, M, hM⟩ | ⟨a, e, he, rfl, M, hM⟩
      · exact st_go g0 (by omega) (max N M) fun f hf => by rw [pRead]; simp [hN f (by omega), hM f (by omega), hb, bind, Except.bind, pure, Except.pure]; exact ⟨rfl, rfl⟩
      · exact st_err he (max N M) fun f hf => by rw [pRead]; simp [hN f (by omega), hM f (by omega), hb, bind, Except.bind, pure, Except.pure]
    · rw [opB_bad hL] at hb; cases hb
theorem st_rep_start (hi : i = 0 ∨ i = 1 ∨ i = 4 ∨ i = 5) (hs : Stp (.lvl (i + 1)) d st [x] st1) : ∀ ys s', Stp (.rep i (cur L st).a [x]) d st1 ys s' → Stp (.lvl i) d st ys s' := by
  intro ys s' hr
  have e2 : ¬ (i = 2 ∨ i = 6) := by omega
  have e3 : ¬ i = 3 := by omega
  have e7 : ¬ 7 ≤ i := by omega
  cases st with
  | bad a e => rw [show st1 = .bad a e from hs] at hr; exact hr
  | ok l =>
    rcases elS hs with ⟨l1, rfl, h0, h1, N, hN⟩ | ⟨a, e, he, rfl, N, hN⟩
    · rcases elS hr with ⟨l2, rfl, g0, g1, M, hM⟩ | ⟨a, e, he, rfl, M, hM⟩
      · exact st_go g0 (by omega) (max N M) fun f hf => by rw [pRead, if_neg e2, if_neg e3, if_neg e7, hN f (by omega)]; exact hM f (by omega)
      · exact st_err he (max N M) fun f hf => by rw [pRead, if_neg e2, if_neg e3, if_neg e7, hN f (by omega)]; exact hM f (by omega)
    · rw [show s' = .bad a e from hr]
      exact st_err he N fun f hf => by rw [pRead, if_neg e2, if_neg e3, if_neg e7, hN f (by omega)]; rfl
theorem st_rep_end {a : Int} (hf : st.fine) (hb : Lib.containsS (lvO i) (cur L st).t = false) : Stp (.rep i a xs) d st xs st := by
  cases st with
  | bad a e => exact rfl
  | ok l =>
    rw [opB_ok] at hb
    exact st_go hf (Nat.le_refl _) 0 fun f hf => by rw [pRead]; simp [hb]
theorem st_rep_step {a : Int} (hL : TkL L) (hb : Lib.containsS (lvO i) (cur L st).t = true) (hy : Stp (.lvl (i + 1)) d (takeS st) [y] st1) : ∀ ys s', Stp (.rep i a [.mk 22 a (cur L st).t 0 [x, y]]) d st1 ys s' → Stp (.rep i a [x]) d st ys s' := by
  intro ys s' hr
  cases st with
  | bad a e => rw [opB_bad hL] at hb; cases hb
  | ok l =>
    rw [opB_ok] at hb
    have hl := pTl_len l
    rcases elS hy with ⟨l1, rfl, h0, h1, N, hN⟩ | ⟨a, e, he, rfl, N, hN⟩
    · rcases elS hr with ⟨l2, rfl, g0, g1, M, hM⟩ | ⟨a, e, he, rfl, M, hM⟩
      · exact st_go g0 (by omega) (max N M) fun f hf => by rw [pRead, if_pos hb, hN f (by omega)]; exact hM f (by omega)
      · exact st_err he (max N M) fun f hf => by rw [pRead, if_pos hb, hN f (by omega)]; exact hM f (by omega)
    · rw [show s' = .bad a e from hr]
      exact st_err he N fun f hf => by rw [pRead, if_pos hb, hN f (by omega)]; rfl
theorem st_pre_no (hL : TkL L) (hi : i = 2 ∨ i = 6) (hb : Lib.containsS (lvO i) (cur L st).t = false) (hs : Stp (.lvl (i + 1)) d st [x] st') : Stp (.lvl i) d st [x] st' := by
  cases st with
  | bad a e => exact hs
  | ok l =>
    rw [opB_ok] at hb
    exact st_as hs fun f => by rw [pRead, if_pos hi]; simp [hb]
theorem st_pre_yes (hL : TkL L) (hi : i = 2 ∨ i = 6) (hb : Lib.containsS (lvO i) (cur L st).t = true) (hs : Stp (.lvl i) (d + 1) (enterS L st d true) [x] st') : Stp (.lvl i) d st [.mk 21 (cur L st).a (cur L st).t 0 [x]] st' := by
  cases st with
  | bad a e => rw [opB_bad hL] at hb; cases hb
  | ok l =>
    rw [opB_ok] at hb
    have hl := pTl_len l
    by_cases h64 : d = 64
    · subst h64
      rw [show st' = .bad (pHd l).a 12 from hs]
      exact st_err (by decide) 0 fun f hf => by rw [pRead, if_pos hi, if_pos hb, if_pos rfl]
    · rw [show enterS L (.ok l) d true = .ok (pTl l) from if_neg h64] at hs
      rcases elS hs with ⟨l1, rfl, h0, h1, N, hN⟩ | ⟨a, e, he, rfl, N, hN⟩
      · exact st_go h0 (by omega) N fun f hf => by rw [pRead, if_pos hi, if_pos hb, if_neg h64, hN f (by omega)]; rfl
      · exact st_err he N fun f hf => by rw [pRead, if_pos hi, if_pos hb, if_neg h64, hN f (by omega)]; rfl
theorem unit_rw (f d : Nat) (l : List Tk) : pRead (f + 1) (.lvl 7) d l =
      if (pHd l).k = 1 then .ok ([pLeaf 20 (pHd l)], pTl l)
      else if pIs wTrue l = true ∨ pIs wFalse l = true then .ok ([pLeaf 23 (pHd l)], pTl l)
      else if pIs [40] l = true then
        if d = 64 then .error ((pHd l).a, 12) else do
          let (x, l1) ← pRead f (.lvl 0) (d + 1) (pTl l)
          let l2 ← pNeed [41] l1
          return (x, l2)
      else pRead f .place d l := by
  rw [pRead, if_neg (by decide), if_neg (by decide), if_pos (by decide)]
theorem st_unit_num (hL : TkL L) (hf : st.fine) (hb : ((cur L st).k == 1) = true) : Stp (.lvl 7) d st [pLeaf 20 (cur L st)] (takeS st) := by
  cases st with
  | bad a e => rw [isNum_bad hL] at hb; cases hb
  | ok l => exact st_go (pTl_ne hf) (pTl_len l) 0 fun f _ => by rw [unit_rw, if_pos (show (pHd l).k = 1 from beq_iff_eq.mp hb)]; rfl
theorem st_unit_truth (hL : TkL L) (hf : st.fine) (h1 : ((cur L st).k == 1) = false) (hb : tIs L st ⟨#[116, 114, 117, 101]⟩ = true ∨ tIs L st ⟨#[102, 97, 108, 115, 101]⟩ = true) : Stp (.lvl 7) d st [pLeaf 23 (cur L st)] (takeS st) := by
  cases st with
  | bad a e =>
    rcases hb with h | h
    · exact absurd ((tIs_bad hL (s := wTrue) (by decide)).symm.trans h) (by decide)
    · exact absurd ((tIs_bad hL (s := wFalse) (by decide)).symm.trans h) (by decide)
  | ok l =>
    have hb := hb.imp (fun h => (tIs_ok L l wTrue).symm.trans h) (fun h => (tIs_ok L l wFalse).symm.trans h)
    exact st_go (pTl_ne hf) (pTl_len l) 0 fun f _ => by rw [unit_rw, if_neg (fun e => by rw [show (cur L (.ok l)).k = 1 from e] at h1; cases h1), if_pos hb]; rfl
theorem st_unit_par (hL : TkL L) (h1 : ((cur L st).k == 1) = false) (h2 : tIs L st ⟨#[116, 114, 117, 101]⟩ = false) (h3 : tIs L st ⟨#[102, 97, 108, 115, 101]⟩ = false) (hb : tIs L st ⟨#[40]⟩ = true)
    (hs : Stp (.lvl 0) (d + 1) (enterS L st d true) [x] st1) : Stp (.lvl 7) d st [x] (needS (tIs L st1 ⟨#[41]⟩) st1) := by
  cases st with
  | bad a e => exact absurd ((tIs_bad hL (s := [40]) (by decide)).symm.trans hb) (by decide)
  | ok l =>
    have h2 := (tIs_ok L l wTrue).symm.trans h2
    have h3 := (tIs_ok L l wFalse).symm.trans h3
    have hb := (tIs_ok L l [40]).symm.trans hb
    have hl := pTl_len l
    have n1 : ¬ (pHd l).k = 1 := fun e => by rw [show (cur L (.ok l)).k = 1 from e] at h1; cases h1
    have n2 : ¬ (pIs wTrue l = true ∨ pIs wFalse l = true) := by rw [h2, h3]; simp
    by_cases h64 : d = 64
    · subst h64
      rw [show st1 = .bad (pHd l).a 12 from hs]
      exact st_err (by decide) 0 fun f hf => by rw [unit_rw, if_neg n1, if_neg n2, if_pos hb, if_pos rfl]
    · rw [show enterS L (.ok l) d true = .ok (pTl l) from if_neg h64] at hs
      rcases elS hs with ⟨l1, rfl, h0, h1, N, hN⟩ | ⟨a, e, he, rfl, N, hN⟩
      · rw [show tIs L (.ok l1) ⟨#[41]⟩ = pIs [41] l1 from tIs_ok L l1 [41]]
        cases hc : pIs [41] l1 with
        | true => exact st_go (pTl_ne h0) (Nat.le_trans (pTl_len l1) (by omega)) N fun f hf => by rw [unit_rw, if_neg n1, if_neg n2, if_pos hb, if_neg h64, hN f (by omega)]; simp [pNeed, hc, bind, Except.bind, pure, Except.pure]
        | false => exact st_err (by decide) N fun f hf => by rw [unit_rw, if_neg n1, if_neg n2, if_pos hb, if_neg h64, hN f (by omega)]; simp [pNeed, hc, bind, Except.bind, pure, Except.pure]
      · exact st_err he N fun f hf => by rw [unit_rw, if_neg n1, if_neg n2, if_pos hb, if_neg h64, hN f (by omega)]; rfl
theorem st_unit_place (hL : TkL L) (h1 : ((cur L st).k == 1) = false) (h2 : tIs L st ⟨#[116, 114, 117, 101]⟩ = false) (h3 : tIs L st ⟨#[102, 97, 108, 115, 101]⟩ = false) (hb : tIs L st ⟨#[40]⟩ = false)
    (hs : Stp .place d st [x] st') : Stp (.lvl 7) d st [x] st' := by
  cases st with
  | bad a e => exact hs
  | ok l =>
    have h2 := (tIs_ok L l wTrue).symm.trans h2
    have h3 := (tIs_ok L l wFalse).symm.trans h3
    have hb := (tIs_ok L l [40]).symm.trans hb
    have n1 : ¬ (pHd l).k = 1 := fun e => by rw [show (cur L (.ok l)).k = 1 from e] at h1; cases h1
    have n2 : ¬ (pIs wTrue l = true ∨ pIs wFalse l = true) := by rw [h2, h3]; simp
    exact st_as hs fun f => by rw [unit_rw, if_neg n1, if_neg n2, hb]; rfl
end
end Go.Proofs.YtdibcllakkjegaaGreatDoor
