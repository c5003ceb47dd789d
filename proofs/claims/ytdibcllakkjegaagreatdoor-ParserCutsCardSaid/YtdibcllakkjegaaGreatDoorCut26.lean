import Derived.Deep.RegionHeld3
import Derived.Test.YtdibcllakkjegaaGreatDoorCut18
import Derived.Test.YtdibcllakkjegaaGreatDoorCut24
import Derived.Test.YtdibcllakkjegaaGreatDoorCut25
import Derived.Test.YtdibcllakkjegaaGreatDoorCut21

set_option linter.unusedVariables false
/-
  parser: store.
-/
set_option linter.unusedSimpArgs false
set_option linter.unusedVariables false
namespace Go.Proofs.YtdibcllakkjegaaGreatDoor
open Go Go.Proofs Go.RowKit Go.Sort
structure Cx5 (W : World) (p : Nat) (v0 v1 v2 v3 v4 : Value) : Prop where
  c0 : W.cell? ⟨p, 0, none⟩ = some v0
  c1 : W.cell? ⟨p, 1, none⟩ = some v1
  c2 : W.cell? ⟨p, 2, none⟩ = some v2
  c3 : W.cell? ⟨p, 3, none⟩ = some v3
  c4 : W.cell? ⟨p, 4, none⟩ = some v4
  lt : p < W.heap.size
theorem Cx5.butt {R p : Nat} {W W' : World} {v0 v1 v2 v3 v4 : Value} (h : Cx5 W p v0 v1 v2 v3 v4) (hp : p ≠ R) (hb : Butt R W W') : Cx5 W' p v0 v1 v2 v3 v4 := by
  obtain ⟨c0, c1, c2, c3, c4, hl⟩ := h
  exact ⟨(hb.cell (p := ⟨p, 0, none⟩) hl hp).trans c0, (hb.cell (p := ⟨p, 1, none⟩) hl hp).trans c1, (hb.cell (p := ⟨p, 2, none⟩) hl hp).trans c2, (hb.cell (p := ⟨p, 3, none⟩) hl hp).trans c3, (hb.cell (p := ⟨p, 4, none⟩) hl hp).trans c4, Nat.lt_of_lt_of_le hl hb.size⟩
theorem Cx5.below {p : Nat} {W W' : World} {v0 v1 v2 v3 v4 : Value} (h : Cx5 W p v0 v1 v2 v3 v4) (hb : Below W.heap.size W W') : Cx5 W' p v0 v1 v2 v3 v4 := by
  obtain ⟨c0, c1, c2, c3, c4, hl⟩ := h
  exact ⟨(hb.cell (p := ⟨p, 0, none⟩) hl).trans c0, (hb.cell (p := ⟨p, 1, none⟩) hl).trans c1, (hb.cell (p := ⟨p, 2, none⟩) hl).trans c2, (hb.cell (p := ⟨p, 3, none⟩) hl).trans c3, (hb.cell (p := ⟨p, 4, none⟩) hl).trans c4, Nat.lt_of_lt_of_le hl hb.size⟩
theorem Cx5.alloc {p : Nat} {W : World} {v0 v1 v2 v3 v4 : Value} (h : Cx5 W p v0 v1 v2 v3 v4) (o : Obj) : Cx5 (W.alloc o) p v0 v1 v2 v3 v4 := h.below ((Below.refl _ _).alloc (Nat.le_refl _) o)
theorem Cx5.kept {p q : Nat} {W W' : World} {v0 v1 v2 v3 v4 : Value} (h : Cx5 W p v0 v1 v2 v3 v4) (hp : p ≠ q) (hb : Kept (· ≠ q) W W') : Cx5 W' p v0 v1 v2 v3 v4 := by
  obtain ⟨c0, c1, c2, c3, c4, hl⟩ := h
  exact ⟨(hb.cell (p := ⟨p, 0, none⟩) hp hl).trans c0, (hb.cell (p := ⟨p, 1, none⟩) hp hl).trans c1, (hb.cell (p := ⟨p, 2, none⟩) hp hl).trans c2, (hb.cell (p := ⟨p, 3, none⟩) hp hl).trans c3, (hb.cell (p := ⟨p, 4, none⟩) hp hl).trans c4, Nat.lt_of_lt_of_le hl hb.size⟩
theorem kid_of {A : Nat → Prop} {W : World} {k a n : Int} {t : ByteArray} {i : Syn} {ao : Option Addr} {l c : Nat} (h : synIn A W (.mk k a t n [i]) (.agg #[.int .i64 k, .int .i64 a, .string t, .int .i64 n, .slice ao l c])) :
    ∃ b k' a' t' n' o' l' c' q', ao = some ⟨b, 0, none⟩ ∧ l = 1 ∧ A b ∧ i = .mk k' a' t' n' q' ∧ Cx5 W b (.int .i64 k') (.int .i64 a') (.string t') (.int .i64 n') (.slice o' l' c') ∧ synIn A W (.mk k' a' t' n' q') (.agg #[.int .i64 k', .int .i64 a', .string t', .int .i64 n', .slice o' l' c']) := by
  obtain ⟨kv, e, hk⟩ := synIn_mk.mp h
  cases e
  rcases hk with ⟨h0, -⟩ | ⟨b, c, e, h1, h2, h3, h4, h5⟩
  · cases h0
  · cases e
    rw [rowIn] at h5
    obtain ⟨⟨v0, v1, v2, v3, v4, c0, c1, c2, c3, c4, hx⟩, -⟩ := h5
    obtain ⟨k', a', t', n', o', l', c', q', e1, e2⟩ := hx.shape
    subst e1
    cases e2
    exact ⟨b, _, _, _, _, _, _, _, _, rfl, rfl, h3, rfl, ⟨c0, c1, c2, c3, c4, h4⟩, hx⟩
set_option maxRecDepth 20000 in
set_option maxHeartbeats 4000000 in
theorem pstore {R : Nat} {L : List Tk} {d : Nat} {st : RSt} {w : World} (h : At R L w d st) (KL : ∀ W : World, At R L W d st → Calls Tryz.prog 164 #[.pointer (some ⟨R, 0, none⟩)] W (PS R L (fun x st' => ∃ a t i, x = .mk 16 a t 0 [i] ∧ Stp .load d st [x] st') d W)) (KX : ∀ s : RSt, s.rem ≤ st.rem → GT 46 R L #[.pointer (some ⟨R, 0, none⟩)] (.lvl 4) d s) :
    Calls Tryz.prog 148 #[.pointer (some ⟨R, 0, none⟩)] w (PS R L (fun x st' => ∃ a t i y s1, x = .mk 10 a t 0 [i, y] ∧ Stp .load d st [.mk 16 a t 0 [i]] s1 ∧ Stp (.lvl 4) d (needS (tIs L s1 ⟨#[58, 61]⟩) s1) [y] st') d w) := by
  have KE := Lib.hid KL; have KK := Lib.hid KX
  have HA0 := Lib.hid h
  have HLT := Lib.hid h.fix.lt; have HRW := Lib.hid h.fix.lt
  have hA := h.alloc (Obj.cells #[.int .i64 0, .int .i64 0, .string ⟨#[]⟩, .int .i64 0, .slice none 0 0] 25)
  have hB := (Butt.refl R w).alloc h.fix.lt (Obj.cells #[.int .i64 0, .int .i64 0, .string ⟨#[]⟩, .int .i64 0, .slice none 0 0] 25)
  have hX := Bx5.new w (.int .i64 0) (.int .i64 0) (.string ⟨#[]⟩) (.int .i64 0) (.slice none 0 0)
  have hpR : w.heap.size ≠ R := fun e => absurd h.fix.lt (by rw [e]; exact Nat.lt_irrefl _)
  have hls : w.heap.size < (w.alloc (Obj.cells #[.int .i64 0, .int .i64 0, .string ⟨#[]⟩, .int .i64 0, .slice none 0 0] 25)).heap.size := by simp
  have A0 := Lib.hid hA; have B0 := Lib.hid hB; have XR0 := Lib.hid hX; have HPR := Lib.hid hpR; have HLS := Lib.hid hls
  clear hA hB hX hpR hls h KL KX
  go_enter Tryz.func148, Tryz.ntmps148
  go_wp2_with (go_at_call 164; refine (KE.out _ A0.out).mono ?_; rintro e w1 ⟨x1, v1, s1, rfl, hx1, hs1, ha1, hb1⟩; refine Hid.out ?_)
  obtain ⟨k1, a1, t1, n1, o1, l1, c1, q1, rfl, rfl, hk1⟩ := hx1.shape
  have HS1 := Lib.hid hs1
  have TR1 := Lib.hid (synIn.of (ps := [w.heap.size]) hx1 (Nat.le_trans (Nat.le_refl _) B0.out.size) (fun p hp => by simp only [List.mem_cons, List.not_mem_nil, or_false] at hp; have g0 := XR0.out.lt; omega))
  have A1 := Lib.hid ha1; have B1 := Lib.hid (B0.out.trans hb1)
  have XR1 := Lib.hid (XR0.out.butt HPR.out hb1)
  clear ha1 hb1 hx1 hk1 hs1
  refine Lib.hid ?_
  obtain ⟨a', t', i', e', hst'⟩ := HS1.out
  cases e'
  obtain ⟨bb, k', a', t', n', o', l', c', q', e1, e2, hbb, e3, hcx, hti⟩ := kid_of TR1.out
  subst e1 e2 e3
  have HST := Lib.hid hst'; have XI1 := Lib.hid hcx; have TI1 := Lib.hid hti; have PXI : Hid (bb ≠ R) := Lib.hid (fun e => by have := hbb.1; have := HLT.out; omega); have HOB : Hid (bb ≠ w.heap.size) := Lib.hid (fun e => hbb.2 (by simp [e]))
  clear hst' hcx hti hbb
  have HIP : Hid (bb ≠ w.heap.size) := Lib.hid HOB.out
  have HEP : Hid (w1.heap.size ≠ w.heap.size) := Lib.hid (fun e => by have := XR1.out.lt; omega)
  have A1a := Lib.hid (A1.out.alloc (Obj.cells #[.int .i64 16, .int .i64 a1, .string t1, .int .i64 0, .slice (some ⟨bb, 0, none⟩) 1 c1] 25)); have B1a := Lib.hid (B1.out.alloc HRW.out (Obj.cells #[.int .i64 16, .int .i64 a1, .string t1, .int .i64 0, .slice (some ⟨bb, 0, none⟩) 1 c1] 25))
  have XR1a := Lib.hid (XR1.out.alloc (Obj.cells #[.int .i64 16, .int .i64 a1, .string t1, .int .i64 0, .slice (some ⟨bb, 0, none⟩) 1 c1] 25))
  have XI1a := Lib.hid (XI1.out.alloc (Obj.cells #[.int .i64 16, .int .i64 a1, .string t1, .int .i64 0, .slice (some ⟨bb, 0, none⟩) 1 c1] 25))
  have TI1a := Lib.hid (TI1.out.butt HLT.out (Butt.of_below A1.out.fix.lt ((Below.refl _ _).alloc (Nat.le_refl _) (Obj.cells #[.int .i64 16, .int .i64 a1, .string t1, .int .i64 0, .slice (some ⟨bb, 0, none⟩) 1 c1] 25))))
  have PXE : Hid (w1.heap.size ≠ R) := Lib.hid (fun e => absurd (A1.out.fix.lt) (by rw [e]; exact Nat.lt_irrefl _))
  have XE1a := Lib.hid (Bx5.new w1 (.int .i64 16) (.int .i64 a1) (.string t1) (.int .i64 0) (.slice (some ⟨bb, 0, none⟩) 1 c1))
  go_wp2_with (go_at_call 55; refine (sexpect A1a.out ⟨#[58, 61]⟩).mono ?_; rintro e w2 ⟨rfl, ha2, hb2⟩; refine Hid.out ?_)
  have A2 := Lib.hid ha2; have B2 := Lib.hid (B1a.out.trans hb2)
  have XR2 := Lib.hid (XR1a.out.butt HPR.out hb2)
  have XI2 := Lib.hid (XI1a.out.butt PXI.out hb2)
  have XE2 := Lib.hid (XE1a.out.butt PXE.out hb2)
  have TI2 := Lib.hid (TI1a.out.butt HLT.out hb2)
  clear ha2 hb2
  refine Lib.hid ?_
  have KQ := Lib.hid (fun W (H : At R L W d (needS (tIs L s1 ⟨#[58, 61]⟩) s1)) => KK.out _ (Nat.le_trans needS_rem (Run.rem HST.out)) W H)
  go_wp2_with fail
  have AD := Lib.hid (A2.out.below (Below.refl _ _).drew); have BD := Lib.hid (B2.out.drew)
  have XRD := Lib.hid (XR2.out.below (Below.refl _ _).drew)
  have XID := Lib.hid (XI2.out.below (Below.refl _ _).drew)
  have XED := Lib.hid (XE2.out.below (Below.refl _ _).drew)
  have TID := Lib.hid (TI2.out.butt HLT.out (Butt.refl R w2).drew)
  have HLW : Hid (w.heap.size ≤ w2.heap.size) := Lib.hid (Nat.le_trans (Nat.le_refl _) B2.out.size)
  have zXE := XE2.out
  have yXE0 := zXE.c0
  have yXE1 := zXE.c1
  have yXE2 := zXE.c2
  have yXE3 := zXE.c3
  have yXE4 := zXE.c4
  clear zXE
  have zXI := XI2.out
  have yXI0 := zXI.c0
  have yXI1 := zXI.c1
  have yXI2 := zXI.c2
  have yXI3 := zXI.c3
  have yXI4 := zXI.c4
  clear zXI
  have SD : World.cell? (w2.drew) ⟨(w1.heap.size), 0, none⟩ = some (.int .i64 16) ∧ World.cell? (w2.drew) ⟨(w1.heap.size), 1, none⟩ = some (.int .i64 a1) ∧ World.cell? (w2.drew) ⟨(w1.heap.size), 2, none⟩ = some (.string t1) ∧ World.cell? (w2.drew) ⟨(w1.heap.size), 3, none⟩ = some (.int .i64 0) ∧ World.cell? (w2.drew) ⟨(w1.heap.size), 4, none⟩ = some (.slice (some ⟨bb, 0, none⟩) 1 c1) ∧ World.cell? (w2.drew) ⟨bb, 0, none⟩ = some (.int .i64 k') ∧ World.cell? (w2.drew) ⟨bb, 1, none⟩ = some (.int .i64 a') ∧ World.cell? (w2.drew) ⟨bb, 2, none⟩ = some (.string t') ∧ World.cell? (w2.drew) ⟨bb, 3, none⟩ = some (.int .i64 n') ∧ World.cell? (w2.drew) ⟨bb, 4, none⟩ = some (.slice o' l' c') := ⟨XED.out.c0, XED.out.c1, XED.out.c2, XED.out.c3, XED.out.c4, XID.out.c0, XID.out.c1, XID.out.c2, XID.out.c3, XID.out.c4⟩
  go_region_held3 (fun w' => World.cell? w' ⟨(w1.heap.size), 0, none⟩ = some (.int .i64 16) ∧ World.cell? w' ⟨(w1.heap.size), 1, none⟩ = some (.int .i64 a1) ∧ World.cell? w' ⟨(w1.heap.size), 2, none⟩ = some (.string t1) ∧ World.cell? w' ⟨(w1.heap.size), 3, none⟩ = some (.int .i64 0) ∧ World.cell? w' ⟨(w1.heap.size), 4, none⟩ = some (.slice (some ⟨bb, 0, none⟩) 1 c1) ∧ World.cell? w' ⟨bb, 0, none⟩ = some (.int .i64 k') ∧ World.cell? w' ⟨bb, 1, none⟩ = some (.int .i64 a') ∧ World.cell? w' ⟨bb, 2, none⟩ = some (.string t') ∧ World.cell? w' ⟨bb, 3, none⟩ = some (.int .i64 n') ∧ World.cell? w' ⟨bb, 4, none⟩ = some (.slice o' l' c')) (first | (with_reducible exact SD) | (with_reducible exact SA) | (with_reducible exact SB) | (with_reducible exact SC) | (with_reducible exact SE) | fail) (first | (go_at_call 46; (with_reducible first | refine (KQ.out _ A2.out).mono ?_ | refine (KQ.out _ AD.out).mono ?_); rintro e w3 ⟨x3, v3, s3, rfl, hx3, hs3, ha3, hb3⟩; obtain ⟨k3, a3, t3, n3, o3, l3, c3, q3, rfl, rfl, hk3⟩ := hx3.shape; have HS3 := Lib.hid hs3; have A3 := Lib.hid ha3; have B3 := Lib.hid ((by with_reducible first | exact B2.out.trans hb3 | exact BD.out.trans hb3) : Butt R w w3); have TR3 := Lib.hid ((by first | exact synIn.of (ps := [w.heap.size]) hx3 HLW.out (fun p hp => by simp only [List.mem_cons, List.not_mem_nil, or_false] at hp; have g0 := XR2.out.lt; omega) | exact synIn.of (ps := [w.heap.size]) (show synAt w2.heap.size w3 _ _ from hx3) HLW.out (fun p hp => by simp only [List.mem_cons, List.not_mem_nil, or_false] at hp; have g0 := XR2.out.lt; omega)) : synIn (offs w.heap.size [w.heap.size]) w3 (.mk k3 a3 t3 n3 q3) (.agg #[.int .i64 k3, .int .i64 a3, .string t3, .int .i64 n3, .slice o3 l3 c3])); have XR3 := Lib.hid ((by with_reducible first | exact XR2.out.butt HPR.out hb3 | exact XRD.out.butt HPR.out hb3) : Bx5 w3 w.heap.size (.int .i64 0) (.int .i64 0) (.string ⟨#[]⟩) (.int .i64 0) (.slice none 0 0)); have XI3 := Lib.hid ((by with_reducible first | exact XI2.out.butt PXI.out hb3 | exact XID.out.butt PXI.out hb3) : Cx5 w3 bb (.int .i64 k') (.int .i64 a') (.string t') (.int .i64 n') (.slice o' l' c')); have XE3 := Lib.hid ((by with_reducible first | exact XE2.out.butt PXE.out hb3 | exact XED.out.butt PXE.out hb3) : Bx5 w3 (w1.heap.size) (.int .i64 16) (.int .i64 a1) (.string t1) (.int .i64 0) (.slice (some ⟨bb, 0, none⟩) 1 c1)); have TI3 := Lib.hid ((by with_reducible first | exact TI2.out.butt HLT.out hb3 | exact TID.out.butt HLT.out hb3) : synIn (offs w.heap.size [w.heap.size]) w3 (.mk k' a' t' n' q') (.agg #[.int .i64 k', .int .i64 a', .string t', .int .i64 n', .slice o' l' c'])); have uXE0 := XE3.out.c0; have uXE1 := XE3.out.c1; have uXE2 := XE3.out.c2; have uXE3 := XE3.out.c3; have uXE4 := XE3.out.c4; have lXE := XE3.out.lt; have mXE := Nat.ne_of_lt lXE; have uXI0 := XI3.out.c0; have uXI1 := XI3.out.c1; have uXI2 := XI3.out.c2; have uXI3 := XI3.out.c3; have uXI4 := XI3.out.c4; have lXI := XI3.out.lt; have mXI := Nat.ne_of_lt lXI; have SA : World.cell? w3 ⟨(w1.heap.size), 0, none⟩ = some (.int .i64 16) ∧ World.cell? w3 ⟨(w1.heap.size), 1, none⟩ = some (.int .i64 a1) ∧ World.cell? w3 ⟨(w1.heap.size), 2, none⟩ = some (.string t1) ∧ World.cell? w3 ⟨(w1.heap.size), 3, none⟩ = some (.int .i64 0) ∧ World.cell? w3 ⟨(w1.heap.size), 4, none⟩ = some (.slice (some ⟨bb, 0, none⟩) 1 c1) ∧ World.cell? w3 ⟨bb, 0, none⟩ = some (.int .i64 k') ∧ World.cell? w3 ⟨bb, 1, none⟩ = some (.int .i64 a') ∧ World.cell? w3 ⟨bb, 2, none⟩ = some (.string t') ∧ World.cell? w3 ⟨bb, 3, none⟩ = some (.int .i64 n') ∧ World.cell? w3 ⟨bb, 4, none⟩ = some (.slice o' l' c') := ⟨XE3.out.c0, XE3.out.c1, XE3.out.c2, XE3.out.c3, XE3.out.c4, XI3.out.c0, XI3.out.c1, XI3.out.c2, XI3.out.c3, XI3.out.c4⟩; have SB : World.cell? (w3.alloc (Obj.cells #[.int .i64 k', .int .i64 a', .string t', .int .i64 n', .slice o' l' c', .int .i64 k3, .int .i64 a3, .string t3, .int .i64 n3, .slice o3 l3 c3] 25)) ⟨(w1.heap.size), 0, none⟩ = some (.int .i64 16) ∧ World.cell? (w3.alloc (Obj.cells #[.int .i64 k', .int .i64 a', .string t', .int .i64 n', .slice o' l' c', .int .i64 k3, .int .i64 a3, .string t3, .int .i64 n3, .slice o3 l3 c3] 25)) ⟨(w1.heap.size), 1, none⟩ = some (.int .i64 a1) ∧ World.cell? (w3.alloc (Obj.cells #[.int .i64 k', .int .i64 a', .string t', .int .i64 n', .slice o' l' c', .int .i64 k3, .int .i64 a3, .string t3, .int .i64 n3, .slice o3 l3 c3] 25)) ⟨(w1.heap.size), 2, none⟩ = some (.string t1) ∧ World.cell? (w3.alloc (Obj.cells #[.int .i64 k', .int .i64 a', .string t', .int .i64 n', .slice o' l' c', .int .i64 k3, .int .i64 a3, .string t3, .int .i64 n3, .slice o3 l3 c3] 25)) ⟨(w1.heap.size), 3, none⟩ = some (.int .i64 0) ∧ World.cell? (w3.alloc (Obj.cells #[.int .i64 k', .int .i64 a', .string t', .int .i64 n', .slice o' l' c', .int .i64 k3, .int .i64 a3, .string t3, .int .i64 n3, .slice o3 l3 c3] 25)) ⟨(w1.heap.size), 4, none⟩ = some (.slice (some ⟨bb, 0, none⟩) 1 c1) ∧ World.cell? (w3.alloc (Obj.cells #[.int .i64 k', .int .i64 a', .string t', .int .i64 n', .slice o' l' c', .int .i64 k3, .int .i64 a3, .string t3, .int .i64 n3, .slice o3 l3 c3] 25)) ⟨bb, 0, none⟩ = some (.int .i64 k') ∧ World.cell? (w3.alloc (Obj.cells #[.int .i64 k', .int .i64 a', .string t', .int .i64 n', .slice o' l' c', .int .i64 k3, .int .i64 a3, .string t3, .int .i64 n3, .slice o3 l3 c3] 25)) ⟨bb, 1, none⟩ = some (.int .i64 a') ∧ World.cell? (w3.alloc (Obj.cells #[.int .i64 k', .int .i64 a', .string t', .int .i64 n', .slice o' l' c', .int .i64 k3, .int .i64 a3, .string t3, .int .i64 n3, .slice o3 l3 c3] 25)) ⟨bb, 2, none⟩ = some (.string t') ∧ World.cell? (w3.alloc (Obj.cells #[.int .i64 k', .int .i64 a', .string t', .int .i64 n', .slice o' l' c', .int .i64 k3, .int .i64 a3, .string t3, .int .i64 n3, .slice o3 l3 c3] 25)) ⟨bb, 3, none⟩ = some (.int .i64 n') ∧ World.cell? (w3.alloc (Obj.cells #[.int .i64 k', .int .i64 a', .string t', .int .i64 n', .slice o' l' c', .int .i64 k3, .int .i64 a3, .string t3, .int .i64 n3, .slice o3 l3 c3] 25)) ⟨bb, 4, none⟩ = some (.slice o' l' c') := ⟨(XE3.out.alloc (Obj.cells #[.int .i64 k', .int .i64 a', .string t', .int .i64 n', .slice o' l' c', .int .i64 k3, .int .i64 a3, .string t3, .int .i64 n3, .slice o3 l3 c3] 25)).c0, (XE3.out.alloc (Obj.cells #[.int .i64 k', .int .i64 a', .string t', .int .i64 n', .slice o' l' c', .int .i64 k3, .int .i64 a3, .string t3, .int .i64 n3, .slice o3 l3 c3] 25)).c1, (XE3.out.alloc (Obj.cells #[.int .i64 k', .int .i64 a', .string t', .int .i64 n', .slice o' l' c', .int .i64 k3, .int .i64 a3, .string t3, .int .i64 n3, .slice o3 l3 c3] 25)).c2, (XE3.out.alloc (Obj.cells #[.int .i64 k', .int .i64 a', .string t', .int .i64 n', .slice o' l' c', .int .i64 k3, .int .i64 a3, .string t3, .int .i64 n3, .slice o3 l3 c3] 25)).c3, (XE3.out.alloc (Obj.cells #[.int .i64 k', .int .i64 a', .string t', .int .i64 n', .slice o' l' c', .int .i64 k3, .int .i64 a3, .string t3, .int .i64 n3, .slice o3 l3 c3] 25)).c4, (XI3.out.alloc (Obj.cells #[.int .i64 k', .int .i64 a', .string t', .int .i64 n', .slice o' l' c', .int .i64 k3, .int .i64 a3, .string t3, .int .i64 n3, .slice o3 l3 c3] 25)).c0, (XI3.out.alloc (Obj.cells #[.int .i64 k', .int .i64 a', .string t', .int .i64 n', .slice o' l' c', .int .i64 k3, .int .i64 a3, .string t3, .int .i64 n3, .slice o3 l3 c3] 25)).c1, (XI3.out.alloc (Obj.cells #[.int .i64 k', .int .i64 a', .string t', .int .i64 n', .slice o' l' c', .int .i64 k3, .int .i64 a3, .string t3, .int .i64 n3, .slice o3 l3 c3] 25)).c2, (XI3.out.alloc (Obj.cells #[.int .i64 k', .int .i64 a', .string t', .int .i64 n', .slice o' l' c', .int .i64 k3, .int .i64 a3, .string t3, .int .i64 n3, .slice o3 l3 c3] 25)).c3, (XI3.out.alloc (Obj.cells #[.int .i64 k', .int .i64 a', .string t', .int .i64 n', .slice o' l' c', .int .i64 k3, .int .i64 a3, .string t3, .int .i64 n3, .slice o3 l3 c3] 25)).c4⟩; clear ha3 hb3 hx3 hk3 hs3) | (go_at_call 59; refine (pnode_any _ _ _ _ _ _ _).mono ?_; rintro e w4 ⟨rfl, hb4⟩; have HBR := Lib.hid hb4; have hbx : Below w3.heap.size w3 w4 := Below.chain ((Below.refl _ _).alloc (Nat.le_refl _) _) hb4; have HBX := Lib.hid hbx; obtain ⟨g0, g1, g2, g3, g4, gf, gl⟩ := XR3.out.below hbx; have gf0 := gf 0; have gf1 := gf 1; have gf2 := gf 2; have gf3 := gf 3; have gf4 := gf 4; have SC : World.cell? w4 ⟨(w1.heap.size), 0, none⟩ = some (.int .i64 16) ∧ World.cell? w4 ⟨(w1.heap.size), 1, none⟩ = some (.int .i64 a1) ∧ World.cell? w4 ⟨(w1.heap.size), 2, none⟩ = some (.string t1) ∧ World.cell? w4 ⟨(w1.heap.size), 3, none⟩ = some (.int .i64 0) ∧ World.cell? w4 ⟨(w1.heap.size), 4, none⟩ = some (.slice (some ⟨bb, 0, none⟩) 1 c1) ∧ World.cell? w4 ⟨bb, 0, none⟩ = some (.int .i64 k') ∧ World.cell? w4 ⟨bb, 1, none⟩ = some (.int .i64 a') ∧ World.cell? w4 ⟨bb, 2, none⟩ = some (.string t') ∧ World.cell? w4 ⟨bb, 3, none⟩ = some (.int .i64 n') ∧ World.cell? w4 ⟨bb, 4, none⟩ = some (.slice o' l' c') := ⟨(XE3.out.below HBX.out).c0, (XE3.out.below HBX.out).c1, (XE3.out.below HBX.out).c2, (XE3.out.below HBX.out).c3, (XE3.out.below HBX.out).c4, (XI3.out.below HBX.out).c0, (XI3.out.below HBX.out).c1, (XI3.out.below HBX.out).c2, (XI3.out.below HBX.out).c3, (XI3.out.below HBX.out).c4⟩; have FT := Lib.hid (store5 HA0.out (B3.out.trans (Butt.of_below A3.out.fix.lt HBX.out)) (A3.out.below HBX.out) (XR3.out.below HBX.out) (Nat.le_refl _) (.int .i64 10) (.int .i64 a1) (.string t1) (.int .i64 0) (.slice (some ⟨w3.heap.size, 0, none⟩) 2 2) _ rfl); have ZXE := (XE3.out.below HBX.out).kept HEP.out FT.out.2.2.2; have ZXI := (XI3.out.below HBX.out).kept HIP.out FT.out.2.2.2; have SE : World.cell? (((((w4.setCell ⟨w.heap.size, 0, none⟩ (.int .i64 10)).setCell ⟨w.heap.size, 1, none⟩ (.int .i64 a1)).setCell ⟨w.heap.size, 2, none⟩ (.string t1)).setCell ⟨w.heap.size, 3, none⟩ (.int .i64 0)).setCell ⟨w.heap.size, 4, none⟩ (.slice (some ⟨w3.heap.size, 0, none⟩) 2 2)) ⟨(w1.heap.size), 0, none⟩ = some (.int .i64 16) ∧ World.cell? (((((w4.setCell ⟨w.heap.size, 0, none⟩ (.int .i64 10)).setCell ⟨w.heap.size, 1, none⟩ (.int .i64 a1)).setCell ⟨w.heap.size, 2, none⟩ (.string t1)).setCell ⟨w.heap.size, 3, none⟩ (.int .i64 0)).setCell ⟨w.heap.size, 4, none⟩ (.slice (some ⟨w3.heap.size, 0, none⟩) 2 2)) ⟨(w1.heap.size), 1, none⟩ = some (.int .i64 a1) ∧ World.cell? (((((w4.setCell ⟨w.heap.size, 0, none⟩ (.int .i64 10)).setCell ⟨w.heap.size, 1, none⟩ (.int .i64 a1)).setCell ⟨w.heap.size, 2, none⟩ (.string t1)).setCell ⟨w.heap.size, 3, none⟩ (.int .i64 0)).setCell ⟨w.heap.size, 4, none⟩ (.slice (some ⟨w3.heap.size, 0, none⟩) 2 2)) ⟨(w1.heap.size), 2, none⟩ = some (.string t1) ∧ World.cell? (((((w4.setCell ⟨w.heap.size, 0, none⟩ (.int .i64 10)).setCell ⟨w.heap.size, 1, none⟩ (.int .i64 a1)).setCell ⟨w.heap.size, 2, none⟩ (.string t1)).setCell ⟨w.heap.size, 3, none⟩ (.int .i64 0)).setCell ⟨w.heap.size, 4, none⟩ (.slice (some ⟨w3.heap.size, 0, none⟩) 2 2)) ⟨(w1.heap.size), 3, none⟩ = some (.int .i64 0) ∧ World.cell? (((((w4.setCell ⟨w.heap.size, 0, none⟩ (.int .i64 10)).setCell ⟨w.heap.size, 1, none⟩ (.int .i64 a1)).setCell ⟨w.heap.size, 2, none⟩ (.string t1)).setCell ⟨w.heap.size, 3, none⟩ (.int .i64 0)).setCell ⟨w.heap.size, 4, none⟩ (.slice (some ⟨w3.heap.size, 0, none⟩) 2 2)) ⟨(w1.heap.size), 4, none⟩ = some (.slice (some ⟨bb, 0, none⟩) 1 c1) ∧ World.cell? (((((w4.setCell ⟨w.heap.size, 0, none⟩ (.int .i64 10)).setCell ⟨w.heap.size, 1, none⟩ (.int .i64 a1)).setCell ⟨w.heap.size, 2, none⟩ (.string t1)).setCell ⟨w.heap.size, 3, none⟩ (.int .i64 0)).setCell ⟨w.heap.size, 4, none⟩ (.slice (some ⟨w3.heap.size, 0, none⟩) 2 2)) ⟨bb, 0, none⟩ = some (.int .i64 k') ∧ World.cell? (((((w4.setCell ⟨w.heap.size, 0, none⟩ (.int .i64 10)).setCell ⟨w.heap.size, 1, none⟩ (.int .i64 a1)).setCell ⟨w.heap.size, 2, none⟩ (.string t1)).setCell ⟨w.heap.size, 3, none⟩ (.int .i64 0)).setCell ⟨w.heap.size, 4, none⟩ (.slice (some ⟨w3.heap.size, 0, none⟩) 2 2)) ⟨bb, 1, none⟩ = some (.int .i64 a') ∧ World.cell? (((((w4.setCell ⟨w.heap.size, 0, none⟩ (.int .i64 10)).setCell ⟨w.heap.size, 1, none⟩ (.int .i64 a1)).setCell ⟨w.heap.size, 2, none⟩ (.string t1)).setCell ⟨w.heap.size, 3, none⟩ (.int .i64 0)).setCell ⟨w.heap.size, 4, none⟩ (.slice (some ⟨w3.heap.size, 0, none⟩) 2 2)) ⟨bb, 2, none⟩ = some (.string t') ∧ World.cell? (((((w4.setCell ⟨w.heap.size, 0, none⟩ (.int .i64 10)).setCell ⟨w.heap.size, 1, none⟩ (.int .i64 a1)).setCell ⟨w.heap.size, 2, none⟩ (.string t1)).setCell ⟨w.heap.size, 3, none⟩ (.int .i64 0)).setCell ⟨w.heap.size, 4, none⟩ (.slice (some ⟨w3.heap.size, 0, none⟩) 2 2)) ⟨bb, 3, none⟩ = some (.int .i64 n') ∧ World.cell? (((((w4.setCell ⟨w.heap.size, 0, none⟩ (.int .i64 10)).setCell ⟨w.heap.size, 1, none⟩ (.int .i64 a1)).setCell ⟨w.heap.size, 2, none⟩ (.string t1)).setCell ⟨w.heap.size, 3, none⟩ (.int .i64 0)).setCell ⟨w.heap.size, 4, none⟩ (.slice (some ⟨w3.heap.size, 0, none⟩) 2 2)) ⟨bb, 4, none⟩ = some (.slice o' l' c') := ⟨ZXE.c0, ZXE.c1, ZXE.c2, ZXE.c3, ZXE.c4, ZXI.c0, ZXI.c1, ZXI.c2, ZXI.c3, ZXI.c4⟩; clear ZXE; clear ZXI; clear gf gl hbx hb4))
  have hAw : offs w.heap.size [w.heap.size] w3.heap.size := ⟨Nat.le_trans (Nat.le_refl _) B3.out.size, fun hp => by simp only [List.mem_cons, List.not_mem_nil, or_false] at hp; have g0 := XR3.out.lt; omega⟩
  have KI := Lib.hid (kidsIn_new (flatIn.cons (TI3.out) (flatIn.one (TR3.out))) (by simp) hAw 2 rfl); clear hAw
  have TN := Lib.hid (synIn_mk.mpr ⟨_, rfl, KI.out.below HBR.out⟩ : synIn (offs w.heap.size [w.heap.size]) w4 (.mk 10 a1 t1 0 [(.mk k' a' t' n' q'), (.mk k3 a3 t3 n3 q3)]) _)
  have AN := Lib.hid (A3.out.below HBX.out); have BN := Lib.hid (B3.out.trans (Butt.of_below A3.out.fix.lt HBX.out)); have XN := Lib.hid (XR3.out.below HBX.out)
  have GX := Lib.hid ((TN.out).kept (by simp) FT.out.2.2.2).at
  obtain ⟨r0, r1, r2, r3, r4⟩ := FT.out.1
  have GA := Lib.hid FT.out.2.1; have GB := Lib.hid FT.out.2.2.1
  clear FT g0 g1 g2 g3 g4 gf0 gf1 gf2 gf3 gf4
  go_wp2
  refine bodyPost_ret (by simp [results, Tryz.results148, go_sem, r0, r1, r2, r3, r4]; rfl) rfl ?_
  exact ⟨_, _, _, rfl, GX.out, ⟨_, _, _, _, _, rfl, HST.out, HS3.out⟩, GA.out, GB.out⟩
structure Alls (R : Nat) (L : List Tk) (n : Nat) : Prop where
  l0 : ∀ (d : Nat) (st : RSt), st.rem ≤ n → d + 8 * st.rem ≤ 900005 → GT 77 R L #[.pointer (some ⟨R, 0, none⟩), .int .i64 0] (.lvl 0) d st
  l1 : ∀ (d : Nat) (st : RSt), st.rem ≤ n → d + 8 * st.rem ≤ 900005 → GT 77 R L #[.pointer (some ⟨R, 0, none⟩), .int .i64 1] (.lvl 1) d st
  l2 : ∀ (d : Nat) (st : RSt), st.rem ≤ n → d + 8 * st.rem ≤ 900005 → GT 77 R L #[.pointer (some ⟨R, 0, none⟩), .int .i64 2] (.lvl 2) d st
  l3 : ∀ (d : Nat) (st : RSt), st.rem ≤ n → d + 8 * st.rem ≤ 900005 → GT 77 R L #[.pointer (some ⟨R, 0, none⟩), .int .i64 3] (.lvl 3) d st
  l4 : ∀ (d : Nat) (st : RSt), st.rem ≤ n → d + 8 * st.rem ≤ 900005 → GT 77 R L #[.pointer (some ⟨R, 0, none⟩), .int .i64 4] (.lvl 4) d st
  l5 : ∀ (d : Nat) (st : RSt), st.rem ≤ n → d + 8 * st.rem ≤ 900005 → GT 77 R L #[.pointer (some ⟨R, 0, none⟩), .int .i64 5] (.lvl 5) d st
  l6 : ∀ (d : Nat) (st : RSt), st.rem ≤ n → d + 8 * st.rem ≤ 900005 → GT 77 R L #[.pointer (some ⟨R, 0, none⟩), .int .i64 6] (.lvl 6) d st
  l7 : ∀ (d : Nat) (st : RSt), st.rem ≤ n → d + 8 * st.rem ≤ 900005 → GT 77 R L #[.pointer (some ⟨R, 0, none⟩), .int .i64 7] (.lvl 7) d st
  stmts : ∀ (d : Nat) (st : RSt), st.rem ≤ n → d + 8 * st.rem ≤ 900005 → GL 116 R L #[.pointer (some ⟨R, 0, none⟩)] .stmts d st
  block : ∀ (d : Nat) (st : RSt), st.rem ≤ n → d + 8 * st.rem ≤ 900004 → GT 152 R L #[.pointer (some ⟨R, 0, none⟩)] .block d st
  branches : ∀ (d : Nat) (st : RSt) (t : Tk), st.rem ≤ n → d + 8 * st.rem ≤ 900003 → GT 151 R L #[.pointer (some ⟨R, 0, none⟩), tkA t] (.chain t.a) d st
theorem needT (st : RSt) : needS true st = takeS st := by cases st <;> rfl
theorem enter_less {R d : Nat} {L : List Tk} {W : World} {st : RSt} (h : At R L W d st) (ht : (cur L st).t ≠ ⟨#[]⟩) : (enterS L st d true).rem + 1 ≤ st.rem := by
  obtain ⟨l, rfl, h1, h2⟩ := rem_less h.fix.toks h ht
  unfold enterS
  split
  · show 0 + 1 ≤ l.length
    omega
  · rw [needT]
    show (takeS (.ok l)).rem + 1 ≤ l.length
    omega
theorem op_ne {L : List Tk} {st : RSt} {i : Nat} (h : Lib.containsS (lvO i) (cur L st).t = true) : (cur L st).t ≠ ⟨#[]⟩ := op_text h
theorem enter_again {R d e : Nat} {L : List Tk} {W : World} {s : RSt} (hL : TkL L) {w : ByteArray} (hw : w ≠ ⟨#[]⟩) (hi : tIs L (takeS s) w = true) (h : At R L W e (enterS L (takeS s) d true)) : (enterS L (takeS s) d true).rem + 1 ≤ s.rem := by
  cases s with
  | bad a e =>
    have := tIs_lit hi
    rw [show cur L (takeS (.bad a e)) = lastT L from rfl, hL.last.2] at this
    exact absurd this.symm hw
  | ok l =>
    have hl := pTl_len l
    unfold enterS at h ⊢
    by_cases h64 : d = 64
    · rw [if_pos h64] at h ⊢
      show 0 + 1 ≤ l.length
      have : l ≠ [] := by
        rintro rfl
        have := tIs_lit hi
        exact hw this.symm
      exact List.length_pos_iff.mpr this
    · rw [if_neg h64] at h ⊢
      have h2 : At R L W e (.ok (pTl (pTl l))) := h
      show (pTl (pTl l)).length + 1 ≤ l.length
      have hl2 := pTl_len (pTl l)
      by_cases hlt : (pTl (pTl l)).length + 1 ≤ l.length
      · exact hlt
      · exfalso
        -- nothing was taken: the last token stands here
        match l, hi, h2, hl, hl2, hlt with
        | [], hi, _, _, _, _ => exact hw (tIs_lit hi).symm
        | [x], hi, h2, _, _, _ =>
          obtain ⟨hf, nx, a, er, g1, g2, g3⟩ := h2
          rcases g3 with ⟨-, -, g3⟩ | ⟨-, -, g3⟩
          · have e1 : [x] = L.drop nx := by injection g3 with g4
            have e2 : nx = L.length - 1 := by
              have := congrArg List.length e1
              rw [List.length_drop] at this
              simp at this
              omega
            have e3 : x = lastT L := by
              have := tkD_drop g1
              rw [← e1] at this
              injection this with e5 _
              rw [e5, e2]; rfl
            have e4 := tIs_lit hi
            rw [show cur L (takeS (.ok [x])) = x from rfl, e3, hL.last.2] at e4
            exact hw e4.symm
          · cases g3
        | x :: y :: r, hi, h2, hl, hl2, hlt =>
          have : (pTl (x :: y :: r)).length + 1 = (x :: y :: r).length := by simp [pTl]
          omega
set_option maxHeartbeats 1000000 in
theorem alls {R : Nat} {L : List Tk} (hNm : ∀ n, (tkD L n).t = ⟨#[110, 97, 109, 101]⟩ → isN (tkD L n) = true) (hN : NumL L) : ∀ n, Alls R L n := by
  intro n
  induction n using Nat.strongRecOn with
  | _ n ih =>
  -- the levels
  have h7 : ∀ (d : Nat) (st : RSt), st.rem ≤ n → d + 8 * st.rem ≤ 900005 → GT 77 R L #[.pointer (some ⟨R, 0, none⟩), .int .i64 7] (.lvl 7) d st := fun d st hr hd W h =>
    plevel7 h (fun W2 h2 => punit h2 (by omega) (fun hb W3 h3 => by
      have hl := enter_less h2 (word_text (by decide) hb)
      exact pcondition_any h3 (fun W4 h4 => (ih _ (by omega)).l0 (d + 1) _ (Nat.le_refl _) (by omega) W4 h4)))
  have h6 : ∀ (d : Nat) (st : RSt), st.rem ≤ n → d + 8 * st.rem ≤ 900005 → GT 77 R L #[.pointer (some ⟨R, 0, none⟩), .int .i64 6] (.lvl 6) d st := fun d st hr hd W h =>
    plevel6 h (fun W2 hh => pprefixed6 hh (by omega) (h7 d st hr hd) (fun hb W3 h3 => by
      have hl := enter_less hh (op_ne hb)
      exact (ih _ (by omega)).l6 (d + 1) _ (Nat.le_refl _) (by omega) W3 h3))
  have h5 : ∀ (d : Nat) (st : RSt), st.rem ≤ n → d + 8 * st.rem ≤ 900005 → GT 77 R L #[.pointer (some ⟨R, 0, none⟩), .int .i64 5] (.lvl 5) d st := fun d st hr hd W h =>
    plevel5 h (fun W2 hh => prepeated5 hh (fun s hs => h6 d s (Nat.le_trans hs hr) (by omega)))
  have h4 : ∀ (d : Nat) (st : RSt), st.rem ≤ n → d + 8 * st.rem ≤ 900005 → GT 77 R L #[.pointer (some ⟨R, 0, none⟩), .int .i64 4] (.lvl 4) d st := fun d st hr hd W h =>
    plevel4 h (fun W2 hh => prepeated4 hh (fun s hs => h5 d s (Nat.le_trans hs hr) (by omega)))
  have h3 : ∀ (d : Nat) (st : RSt), st.rem ≤ n → d + 8 * st.rem ≤ 900005 → GT 77 R L #[.pointer (some ⟨R, 0, none⟩), .int .i64 3] (.lvl 3) d st := fun d st hr hd W h =>
    plevel3 h (fun W2 hh => pcompared hh (fun s hs => h4 d s (Nat.le_trans hs hr) (by omega)))
  have h2 : ∀ (d : Nat) (st : RSt), st.rem ≤ n → d + 8 * st.rem ≤ 900005 → GT 77 R L #[.pointer (some ⟨R, 0, none⟩), .int .i64 2] (.lvl 2) d st := fun d st hr hd W h =>
    plevel2 h (fun W2 hh => pprefixed2 hh (by omega) (h3 d st hr hd) (fun hb W3 h3 => by
      have hl := enter_less hh (op_ne hb)
      exact (ih _ (by omega)).l2 (d + 1) _ (Nat.le_refl _) (by omega) W3 h3))
  have h1 : ∀ (d : Nat) (st : RSt), st.rem ≤ n → d + 8 * st.rem ≤ 900005 → GT 77 R L #[.pointer (some ⟨R, 0, none⟩), .int .i64 1] (.lvl 1) d st := fun d st hr hd W h =>
    plevel1 h (fun W2 hh => prepeated1 hh (fun s hs => h2 d s (Nat.le_trans hs hr) (by omega)))
  have h0 : ∀ (d : Nat) (st : RSt), st.rem ≤ n → d + 8 * st.rem ≤ 900005 → GT 77 R L #[.pointer (some ⟨R, 0, none⟩), .int .i64 0] (.lvl 0) d st := fun d st hr hd W h =>
    plevel0 h (fun W2 hh => prepeated0 hh (fun s hs => h1 d s (Nat.le_trans hs hr) (by omega)))
  have hc : ∀ (d : Nat) (st : RSt), st.rem ≤ n → d + 8 * st.rem ≤ 900005 → GT 41 R L #[.pointer (some ⟨R, 0, none⟩)] (.lvl 0) d st := fun d st hr hd W h => pcondition_any h (h0 d st hr hd)
  have he : ∀ (d : Nat) (st : RSt), st.rem ≤ n → d + 8 * st.rem ≤ 900005 → GT 46 R L #[.pointer (some ⟨R, 0, none⟩)] (.lvl 4) d st := fun d st hr hd W h => pexpression_any h (h4 d st hr hd)
  have hs : ∀ (d : Nat) (st : RSt), st.rem ≤ n → d + 8 * st.rem ≤ 900005 → GL 116 R L #[.pointer (some ⟨R, 0, none⟩)] .stmts d st := fun d st hr hd W h => by
    have hL := h.fix.toks
    refine pstatementList h hNm ?_ ?_ ?_ ?_ ?_
    · intro s hs hb W2 h2
      have hx : ∀ s2 : RSt, s2.rem ≤ s.rem → GT 46 R L #[.pointer (some ⟨R, 0, none⟩)] (.lvl 4) d s2 := fun s2 h3 => he d s2 (by omega) (by omega)
      have hload : ∀ s2 : RSt, s2.rem ≤ s.rem → ∀ W : World, At R L W d s2 → Calls Tryz.prog 164 #[.pointer (some ⟨R, 0, none⟩)] W (PS R L (fun x st' => ∃ a t i, x = .mk 16 a t 0 [i] ∧ Stp .load d s2 [x] st') d W) := fun s2 h3 W H => pload H (fun s3 h4 => hx s3 (Nat.le_trans h4 h3))
      have hcall : ∀ s2 : RSt, s2.rem ≤ s.rem → GT 149 R L #[.pointer (some ⟨R, 0, none⟩)] .call d s2 := fun s2 h3 W H => pcall H (fun s3 h4 => hx s3 (Nat.le_trans h4 h3))
      exact passignment h2 hb (fun W H => pstore H (hload s (Nat.le_refl _)) (fun s3 h4 => hx s3 h4)) (hcall s (Nat.le_refl _)) (fun s3 h4 W H => pright H (hload s3 h4) (hcall s3 h4) (hx s3 h4))
    · intro s hs hb hi W2 h2
      obtain ⟨l, e, h3, h4⟩ := rem_less hL h2 (word_text (by decide) hi)
      have e2 : s.rem = l.length := by rw [e]; rfl
      refine (pchoice h2 hi (fun t ht => ?_)).mono ?_
      · exact (ih (takeS s).rem (by omega)).branches d (takeS s) t (Nat.le_refl _) (by omega)
      · rintro e w' ⟨x, v, st', he, hx, hst, ha, hbt⟩
        exact ⟨x, v, st', he, hx, stmt_if h2.fine hb hi hst, ha, hbt⟩
    · intro s hs hb hi hw W2 h2
      obtain ⟨l, e, h3, h4⟩ := rem_less hL h2 (word_text (by decide) hw)
      have e2 : s.rem = l.length := by rw [e]; rfl
      refine (ploop h2 hw (hc d _ (by have := takeS_rem s; omega) (by have := takeS_rem s; omega)) (fun s2 h5 => (ih s2.rem (by omega)).block d s2 (Nat.le_refl _) (by omega))).mono ?_
      rintro e w' ⟨x, v, st', he, hx, hst, ha, hbt⟩
      exact ⟨x, v, st', he, hx, stmt_while h2.fine hb hi hw hst, ha, hbt⟩
    · intro q s hs hb hi hw hass W2 h2 hq hqR hql
      refine (pclaim1 q hq hqR hql h2 (hc d _ (by have := takeS_rem s; omega) (by have := takeS_rem s; omega))).mono ?_
      rintro e w' ⟨x, v, st', he, hx, hst, ha, hbt⟩
      exact ⟨x, v, st', he, hx, stmt_assert h2.fine hb hi hw hass hst, ha, hbt⟩
    · intro q s hs hb hi hw hass hasm W2 h2 hq hqR hql
      refine (pclaim2 q hq hqR hql h2 (hc d _ (by have := takeS_rem s; omega) (by have := takeS_rem s; omega))).mono ?_
      rintro e w' ⟨x, v, st', he, hx, hst, ha, hbt⟩
      exact ⟨x, v, st', he, hx, stmt_assume h2.fine hb hi hw hass hst, ha, hbt⟩
  have hre : ∀ (d : Nat) (st : RSt) (b : Bool), (enterS L st d b).rem ≤ st.rem := fun d st b => by
    unfold enterS
    split
    · refine Nat.le_trans ?_ (needS_rem (can := b) (st := st))
      cases needS b st with
      | ok l => exact Nat.zero_le _
      | bad a e => exact Nat.le_refl _
    · exact needS_rem
  have hb : ∀ (d : Nat) (st : RSt), st.rem ≤ n → d + 8 * st.rem ≤ 900004 → GT 152 R L #[.pointer (some ⟨R, 0, none⟩)] .block d st := fun d st hr hd W h =>
    pblock h (by omega) (hs (d + 1) _ (Nat.le_trans (hre _ _ _) hr) (by have := hre d st (tIs L st ⟨#[123]⟩); omega))
  have hbr : ∀ (d : Nat) (st : RSt) (t : Tk), st.rem ≤ n → d + 8 * st.rem ≤ 900003 → GT 151 R L #[.pointer (some ⟨R, 0, none⟩), tkA t] (.chain t.a) d st := fun d st t hr hd W h =>
    pbranches h t.k t.t t.a (by omega) (hc d st hr (by omega)) (fun s h2 => hb d s (by omega) (by omega)) (fun s h2 hi t2 ht W2 h3 => by
      have hl := enter_again h3.fix.toks (by decide) hi h3
      exact (ih _ (by omega)).branches (d + 1) _ t2 (Nat.le_refl _) (by omega) W2 h3)
  exact ⟨h0, h1, h2, h3, h4, h5, h6, h7, hs, hb, hbr⟩
section
variable {R : Nat} {L : List Tk} (hNm : ∀ n, (tkD L n).t = ⟨#[110, 97, 109, 101]⟩ → isN (tkD L n) = true) (hN : NumL L)
include hNm hN
theorem all_condition {w : World} {st : RSt} (h : At R L w 0 st) : Calls Tryz.prog 41 #[.pointer (some ⟨R, 0, none⟩)] w (PT R L (.lvl 0) 0 st w) :=
  pcondition_any h ((alls hNm hN st.rem).l0 0 st (Nat.le_refl _) (by have := h.rem; omega))
theorem all_expression {w : World} {st : RSt} (h : At R L w 0 st) : Calls Tryz.prog 46 #[.pointer (some ⟨R, 0, none⟩)] w (PT R L (.lvl 4) 0 st w) :=
  pexpression_any h ((alls hNm hN st.rem).l4 0 st (Nat.le_refl _) (by have := h.rem; omega))
theorem all_procedure {w : World} {st : RSt} (h : At R L w 0 st) : Calls Tryz.prog 47 #[.pointer (some ⟨R, 0, none⟩)] w (PT R L .proc 0 st w) := by
  have hr := h.rem
  refine pprocedure h (fun s hs W H => pcondition_any H ((alls hNm hN s.rem).l0 0 s (Nat.le_refl _) (by omega))) (fun s hs W H => pbody H (by omega) hN (fun s2 h2 W2 H2 => ?_))
  have hre : (enterS L s 0 (tIs L s ⟨#[123]⟩)).rem ≤ s.rem := Run.rem (run_enter (L := L) (d := 0) H.fine [123])
  exact (alls hNm hN s2.rem).stmts 1 s2 (Nat.le_refl _) (by omega) W2 H2
theorem all_program {w : World} {st : RSt} (h : At R L w 0 st) : Calls Tryz.prog 30 #[.pointer (some ⟨R, 0, none⟩)] w (fun e W' => ∃ xs v st', e = .returned v ∧ synAt w.heap.size W' (.mk 0 (cur L st).a ⟨#[]⟩ 0 xs) v ∧ Stp (.program (cur L st).a) 0 st xs st' ∧ At R L W' 0 st' ∧ Butt R w W') :=
  pprogram h (fun s hs W H => all_procedure hNm hN H)
end
end Go.Proofs.YtdibcllakkjegaaGreatDoor
