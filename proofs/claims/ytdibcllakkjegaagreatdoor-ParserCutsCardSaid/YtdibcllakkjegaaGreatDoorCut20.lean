import Derived.Deep.RegionHeld3
import Derived.Test.YtdibcllakkjegaaGreatDoorCut19
import Derived.Test.YtdibcllakkjegaaGreatDoorCut16

set_option linter.unusedVariables false
/-
  parser: array.
-/
set_option linter.unusedSimpArgs false
set_option linter.unusedVariables false
namespace Go.Proofs.YtdibcllakkjegaaGreatDoor
open Go Go.Proofs Go.RowKit Go.Sort
theorem run_array {L : List Tk} {st s1 s2 s3 : RSt} {t : Tk} {n : Int} (hf : st.fine) (h1 : Run mName (takeS st) t s1) (h2 : Run mNum (needS (tIs L s1 ⟨#[91]⟩) s1) n s2) (h3 : s3 = needS (tIs L s2 ⟨#[93]⟩) s2) :
    Run mArray st (.mk 8 (cur L st).a t.t n []) (needS (tIs L s3 ⟨#[59]⟩) s3) := by
  subst h3
  have f0 := RSt.takeS_fine hf
  have f1 := Run.fine h1 f0
  have f2 := needS_fine (can := tIs L s1 ⟨#[91]⟩) f1
  have f3 := Run.fine h2 f2
  have f4 := needS_fine (can := tIs L s2 ⟨#[93]⟩) f3
  exact Run.bind (run_take (L := L) hf) (Run.bind h1 (Run.bind (run_need (L := L) f1 [91]) (Run.bind h2 (Run.bind (run_need (L := L) f3 [93]) (Run.bind (run_need (L := L) f4 [59]) (run_ret (needS_fine f4)))))))
theorem Bx5.setNum {W : World} {p : Nat} {v0 v1 v2 v3 v4 : Value} (h : Bx5 W p v0 v1 v2 v3 v4) (z : Value) : Bx5 (W.setCell ⟨p, 3, none⟩ z) p v0 v1 v2 z v4 := by
  obtain ⟨c0, c1, c2, c3, c4, hf, hl⟩ := h
  have o : ∀ j : Nat, j ≠ 3 → (W.setCell ⟨p, 3, none⟩ z).cell? ⟨p, j, none⟩ = W.cell? ⟨p, j, none⟩ := fun j hj => World.cell?_setCell_other W ⟨p, 3, none⟩ ⟨p, j, none⟩ z (fun e => hj (by cases e; rfl))
  exact ⟨(o 0 (by decide)).trans c0, (o 1 (by decide)).trans c1, (o 2 (by decide)).trans c2, cellSet c3 z, (o 4 (by decide)).trans c4, fun j => (World.frozen?_setCell _ _ _ _).trans (hf j), by simpa using hl⟩
theorem At.setNum {R : Nat} {L : List Tk} {d0 d q i : Nat} {st0 st : RSt} {w W : World} (h0 : At R L w d0 st0) (hb : Butt R w W) (ha : At R L W d st) (hq : w.heap.size ≤ q) (z : Value) :
    At R L (W.setCell ⟨q, i, none⟩ z) d st ∧ Butt R w (W.setCell ⟨q, i, none⟩ z) ∧ Kept (· ≠ q) W (W.setCell ⟨q, i, none⟩ z) := by
  have hR := h0.fix.lt
  have hbt := Butt.setNew hR hb ⟨q, i, none⟩ hq z
  obtain ⟨hf0, nx0, a0, er0, h01, h02, h03⟩ := h0
  obtain ⟨hf, nx, a, er, h1, h2, h3⟩ := ha
  have nb : ∀ j : Nat, (⟨q, i, none⟩ : Addr) ≠ ⟨R, j, none⟩ := fun j e => by
    have : q = R := by cases e; rfl
    omega
  have o : ∀ j : Nat, (W.setCell ⟨q, i, none⟩ z).cell? ⟨R, j, none⟩ = W.cell? ⟨R, j, none⟩ := fun j => World.cell?_setCell_other W ⟨q, i, none⟩ ⟨R, j, none⟩ z (nb j)
  exact ⟨⟨hf0.butt hbt, nx, a, er, h1, h02.later hbt ((o 1).trans h2.c1) ((o 2).trans h2.c2) ((o 3).trans h2.c3) ((o 4).trans h2.c4) (fun j => (World.frozen?_setCell _ _ _ _).trans (h2.free j)), h3⟩, hbt, (Kept.refl _ W).setCell ⟨q, i, none⟩ (fun h => h rfl) z⟩
set_option maxRecDepth 20000 in
set_option maxHeartbeats 4000000 in
theorem parray {R : Nat} {L : List Tk} {d : Nat} {st : RSt} {w : World} (h : At R L w d st) (hN : NumL L) (hv : tIs L st ⟨#[97, 114, 114, 97, 121]⟩ = true) :
    Calls Tryz.prog 141 #[.pointer (some ⟨R, 0, none⟩)] w (PS R L (fun x st' => Run mArray st x st') d w) := by
  have hfi := h.fine
  have CE := fun W (H : At R L W d st) => sexpect H ⟨#[97, 114, 114, 97, 121]⟩
  rw [hv, tokM_true] at CE
  have e : needS true st = takeS st := by cases st <;> rfl
  rw [e] at CE
  have hf := run_field_tok1
  have hnm := run_name (L := L) (RSt.takeS_fine hfi)
  have CN := fun W (H : At R L W d (takeS st)) => sname H
  have HM := Lib.hid (fun s1 s2 s3 t n => run_array (L := L) (s1 := s1) (s2 := s2) (s3 := s3) (t := t) (n := n) hfi)
  generalize needS (isN (cur L (takeS st))) (takeS st) = s1 at *
  generalize tokM L (takeS st) (isN (cur L (takeS st))) = U at *
  generalize cur L st = T at *
  obtain ⟨ek, et, ea⟩ := T
  obtain ⟨uk, ut, ua⟩ := U
  unfold tkA at *
  dsimp only at *
  have KE := Lib.hid CE; have KN := Lib.hid CN; have HNM := Lib.hid hnm; have HNL := Lib.hid hN
  have HA0 := Lib.hid h
  have HLT := Lib.hid h.fix.lt; have HRW := Lib.hid h.fix.lt
  have hA := h.alloc (Obj.cells #[.int .i64 0, .int .i64 0, .string ⟨#[]⟩, .int .i64 0, .slice none 0 0] 25)
  have hB := (Butt.refl R w).alloc h.fix.lt (Obj.cells #[.int .i64 0, .int .i64 0, .string ⟨#[]⟩, .int .i64 0, .slice none 0 0] 25)
  have hX := Bx5.new w (.int .i64 0) (.int .i64 0) (.string ⟨#[]⟩) (.int .i64 0) (.slice none 0 0)
  have hpR : w.heap.size ≠ R := fun e => absurd h.fix.lt (by rw [e]; exact Nat.lt_irrefl _)
  have hls : w.heap.size < (w.alloc (Obj.cells #[.int .i64 0, .int .i64 0, .string ⟨#[]⟩, .int .i64 0, .slice none 0 0] 25)).heap.size := by simp
  have A0 := Lib.hid hA; have B0 := Lib.hid hB; have XR0 := Lib.hid hX; have HPR := Lib.hid hpR; have HLS := Lib.hid hls
  clear hA hB hX hpR hls h CE CN hfi e hv hnm hN
  go_enter Tryz.func141, Tryz.ntmps141
  go_wp2_with (go_at_call 55; refine (KE.out _ A0.out).mono ?_; rintro e w1 ⟨rfl, ha1, hb1⟩; refine Hid.out ?_)
  have A1 := Lib.hid ha1; have B1 := Lib.hid (B0.out.trans hb1)
  have XR1 := Lib.hid (XR0.out.butt HPR.out hb1)
  clear ha1 hb1
  refine Lib.hid ?_
  have A1a := Lib.hid (A1.out.alloc (Obj.cells #[.int .i64 ek, .string et, .int .i64 ea] 47)); have B1a := Lib.hid (B1.out.alloc HRW.out (Obj.cells #[.int .i64 ek, .string et, .int .i64 ea] 47))
  have XR1a := Lib.hid (XR1.out.alloc (Obj.cells #[.int .i64 ek, .string et, .int .i64 ea] 47))
  have PTT : Hid (w1.heap.size ≠ R) := Lib.hid (fun e => absurd (A1.out.fix.lt) (by rw [e]; exact Nat.lt_irrefl _))
  have TT1a := Lib.hid (Bx3.new w1 (.int .i64 ek) (.string et) (.int .i64 ea))
  go_wp2_with fail
  generalize w1.alloc (Obj.cells #[.int .i64 ek, .string et, .int .i64 ea] 47) = WA at *
  have AD := Lib.hid (A1a.out.below (Below.refl _ _).drew); have BD := Lib.hid (B1a.out.drew)
  have TD := Lib.hid (TT1a.out.below (Below.refl _ _).drew); have XD := Lib.hid (XR1a.out.below (Below.refl _ _).drew)
  have AE := Lib.hid ((A1a.out.alloc (Obj.cells #[.int .i64 0, .int .i64 0, .string ⟨#[]⟩, .int .i64 0, .slice none 0 0] 25)).below (Below.refl _ _).drew); have BE := Lib.hid ((B1a.out.alloc HRW.out (Obj.cells #[.int .i64 0, .int .i64 0, .string ⟨#[]⟩, .int .i64 0, .slice none 0 0] 25)).drew)
  have TE := Lib.hid ((TT1a.out.alloc (Obj.cells #[.int .i64 0, .int .i64 0, .string ⟨#[]⟩, .int .i64 0, .slice none 0 0] 25)).below (Below.refl _ _).drew); have XE := Lib.hid ((XR1a.out.alloc (Obj.cells #[.int .i64 0, .int .i64 0, .string ⟨#[]⟩, .int .i64 0, .slice none 0 0] 25)).below (Below.refl _ _).drew)
  have QE := Lib.hid ((Bx5.new WA (.int .i64 0) (.int .i64 0) (.string ⟨#[]⟩) (.int .i64 0) (.slice none 0 0)).below (Below.refl _ _).drew)
  have HQE : Hid (w.heap.size ≤ WA.heap.size) := Lib.hid B1a.out.size
  have PQE : Hid (WA.heap.size ≠ R) := Lib.hid (fun e => absurd A1a.out.fix.lt (by rw [e]; exact Nat.lt_irrefl _))
  have SD : World.cell? WA.drew ⟨w1.heap.size, 0, none⟩ = some (Value.int .i64 ek) ∧ World.cell? WA.drew ⟨w1.heap.size, 1, none⟩ = some (Value.string et) ∧ World.cell? WA.drew ⟨w1.heap.size, 2, none⟩ = some (Value.int .i64 ea) := ⟨TD.out.c0, TD.out.c1, TD.out.c2⟩
  have SE : World.cell? (WA.alloc (Obj.cells #[.int .i64 0, .int .i64 0, .string ⟨#[]⟩, .int .i64 0, .slice none 0 0] 25)).drew ⟨w1.heap.size, 0, none⟩ = some (Value.int .i64 ek) ∧ World.cell? (WA.alloc (Obj.cells #[.int .i64 0, .int .i64 0, .string ⟨#[]⟩, .int .i64 0, .slice none 0 0] 25)).drew ⟨w1.heap.size, 1, none⟩ = some (Value.string et) ∧ World.cell? (WA.alloc (Obj.cells #[.int .i64 0, .int .i64 0, .string ⟨#[]⟩, .int .i64 0, .slice none 0 0] 25)).drew ⟨w1.heap.size, 2, none⟩ = some (Value.int .i64 ea) := ⟨TE.out.c0, TE.out.c1, TE.out.c2⟩
  go_region_held3 (fun w' => World.cell? w' ⟨w1.heap.size, 0, none⟩ = some (Value.int .i64 ek) ∧ World.cell? w' ⟨w1.heap.size, 1, none⟩ = some (Value.string et) ∧ World.cell? w' ⟨w1.heap.size, 2, none⟩ = some (Value.int .i64 ea)) (first | (with_reducible exact SD) | (with_reducible exact SE) | (with_reducible exact S2) | (with_reducible exact S2a) | (with_reducible exact S3) | (with_reducible exact S3a) | (with_reducible exact S8) | fail) (first | (go_at_call 85; (with_reducible refine (KN.out _ AD.out).mono ?_); rintro e w2 ⟨rfl, ha2, hb2⟩; have BZ := BD; have TZ := TD; have XZ := XD; have A2 := Lib.hid ha2; have B2 := Lib.hid (BZ.out.trans hb2); have T2 := Lib.hid (TZ.out.butt PTT.out hb2); have X2 := Lib.hid (XZ.out.butt HPR.out hb2); have S2 : World.cell? w2 ⟨w1.heap.size, 0, none⟩ = some (Value.int .i64 ek) ∧ World.cell? w2 ⟨w1.heap.size, 1, none⟩ = some (Value.string et) ∧ World.cell? w2 ⟨w1.heap.size, 2, none⟩ = some (Value.int .i64 ea) := ⟨T2.out.c0, T2.out.c1, T2.out.c2⟩; have S2a : World.cell? (w2.alloc (Obj.cells #[.int .i64 0, .int .i64 0, .string ⟨#[]⟩, .int .i64 0, .slice none 0 0] 25)) ⟨w1.heap.size, 0, none⟩ = some (Value.int .i64 ek) ∧ World.cell? (w2.alloc (Obj.cells #[.int .i64 0, .int .i64 0, .string ⟨#[]⟩, .int .i64 0, .slice none 0 0] 25)) ⟨w1.heap.size, 1, none⟩ = some (Value.string et) ∧ World.cell? (w2.alloc (Obj.cells #[.int .i64 0, .int .i64 0, .string ⟨#[]⟩, .int .i64 0, .slice none 0 0] 25)) ⟨w1.heap.size, 2, none⟩ = some (Value.int .i64 ea) := ⟨(T2.out.alloc (Obj.cells #[.int .i64 0, .int .i64 0, .string ⟨#[]⟩, .int .i64 0, .slice none 0 0] 25)).c0, (T2.out.alloc (Obj.cells #[.int .i64 0, .int .i64 0, .string ⟨#[]⟩, .int .i64 0, .slice none 0 0] 25)).c1, (T2.out.alloc (Obj.cells #[.int .i64 0, .int .i64 0, .string ⟨#[]⟩, .int .i64 0, .slice none 0 0] 25)).c2⟩; have HQ2 : Hid (w.heap.size ≤ w2.heap.size) := Lib.hid B2.out.size; have PQ2 : Hid (w2.heap.size ≠ R) := Lib.hid (fun e => absurd A2.out.fix.lt (by rw [e]; exact Nat.lt_irrefl _)); clear ha2 hb2 BZ TZ XZ) | (go_at_call 85; (with_reducible refine (KN.out _ AE.out).mono ?_); rintro e w2 ⟨rfl, ha2, hb2⟩; have BZ := BE; have TZ := TE; have XZ := XE; have Q2 := Lib.hid (QE.out.butt PQE.out hb2); have A2 := Lib.hid ha2; have B2 := Lib.hid (BZ.out.trans hb2); have T2 := Lib.hid (TZ.out.butt PTT.out hb2); have X2 := Lib.hid (XZ.out.butt HPR.out hb2); have S2 : World.cell? w2 ⟨w1.heap.size, 0, none⟩ = some (Value.int .i64 ek) ∧ World.cell? w2 ⟨w1.heap.size, 1, none⟩ = some (Value.string et) ∧ World.cell? w2 ⟨w1.heap.size, 2, none⟩ = some (Value.int .i64 ea) := ⟨T2.out.c0, T2.out.c1, T2.out.c2⟩; have S2a : World.cell? (w2.alloc (Obj.cells #[.int .i64 0, .int .i64 0, .string ⟨#[]⟩, .int .i64 0, .slice none 0 0] 25)) ⟨w1.heap.size, 0, none⟩ = some (Value.int .i64 ek) ∧ World.cell? (w2.alloc (Obj.cells #[.int .i64 0, .int .i64 0, .string ⟨#[]⟩, .int .i64 0, .slice none 0 0] 25)) ⟨w1.heap.size, 1, none⟩ = some (Value.string et) ∧ World.cell? (w2.alloc (Obj.cells #[.int .i64 0, .int .i64 0, .string ⟨#[]⟩, .int .i64 0, .slice none 0 0] 25)) ⟨w1.heap.size, 2, none⟩ = some (Value.int .i64 ea) := ⟨(T2.out.alloc (Obj.cells #[.int .i64 0, .int .i64 0, .string ⟨#[]⟩, .int .i64 0, .slice none 0 0] 25)).c0, (T2.out.alloc (Obj.cells #[.int .i64 0, .int .i64 0, .string ⟨#[]⟩, .int .i64 0, .slice none 0 0] 25)).c1, (T2.out.alloc (Obj.cells #[.int .i64 0, .int .i64 0, .string ⟨#[]⟩, .int .i64 0, .slice none 0 0] 25)).c2⟩; have HQ2 : Hid (w.heap.size ≤ w2.heap.size) := Lib.hid B2.out.size; have PQ2 : Hid (w2.heap.size ≠ R) := Lib.hid (fun e => absurd A2.out.fix.lt (by rw [e]; exact Nat.lt_irrefl _)); clear ha2 hb2 BZ TZ XZ) | (go_at_call 59; (with_reducible refine (pnode_any _ _ _ _ _ _ _).mono ?_); rintro e w3 ⟨rfl, hb3⟩; have qq := Q2.out; have hbx : Below w2.heap.size w2 w3 := hb3; obtain ⟨g0, g1, g2, g3, g4, gf, gl⟩ := Q2.out.below hbx; have gf0 := gf 0; have gf1 := gf 1; have gf2 := gf 2; have gf3 := gf 3; have gf4 := gf 4; clear gf gl; have FT := Lib.hid (store5 HA0.out (B2.out.trans (Butt.of_below A2.out.fix.lt hbx)) (A2.out.below hbx) (Q2.out.below hbx) HQE.out (.int .i64 8) (.int .i64 ea) (.string ut) (.int .i64 0) (.slice none 0 0) _ rfl); have A8 := Lib.hid FT.out.2.1; have B8 := Lib.hid FT.out.2.2.1; have Q8 := Lib.hid FT.out.1; have X8 := Lib.hid ((X2.out.below hbx).kept (fun e => by have := XD.out.lt; have h9 : w.heap.size < WA.heap.size := XD.out.lt; omega) FT.out.2.2.2); have T8 := Lib.hid ((T2.out.below hbx).kept (fun e => by have := T2.out.lt; have := TD.out.lt; first | omega | (have h9 : w1.heap.size < WA.heap.size := TD.out.lt; omega)) FT.out.2.2.2); have S8 : World.cell? (((((w3.setCell ⟨WA.heap.size, 0, none⟩ (.int .i64 8)).setCell ⟨WA.heap.size, 1, none⟩ (.int .i64 ea)).setCell ⟨WA.heap.size, 2, none⟩ (.string ut)).setCell ⟨WA.heap.size, 3, none⟩ (.int .i64 0)).setCell ⟨WA.heap.size, 4, none⟩ (.slice none 0 0)) ⟨w1.heap.size, 0, none⟩ = some (Value.int .i64 ek) ∧ World.cell? (((((w3.setCell ⟨WA.heap.size, 0, none⟩ (.int .i64 8)).setCell ⟨WA.heap.size, 1, none⟩ (.int .i64 ea)).setCell ⟨WA.heap.size, 2, none⟩ (.string ut)).setCell ⟨WA.heap.size, 3, none⟩ (.int .i64 0)).setCell ⟨WA.heap.size, 4, none⟩ (.slice none 0 0)) ⟨w1.heap.size, 1, none⟩ = some (Value.string et) ∧ World.cell? (((((w3.setCell ⟨WA.heap.size, 0, none⟩ (.int .i64 8)).setCell ⟨WA.heap.size, 1, none⟩ (.int .i64 ea)).setCell ⟨WA.heap.size, 2, none⟩ (.string ut)).setCell ⟨WA.heap.size, 3, none⟩ (.int .i64 0)).setCell ⟨WA.heap.size, 4, none⟩ (.slice none 0 0)) ⟨w1.heap.size, 2, none⟩ = some (Value.int .i64 ea) := ⟨T8.out.c0, T8.out.c1, T8.out.c2⟩; have N8 : Hid (WA.heap.size ≠ w.heap.size) := Lib.hid (Ne.symm (fun e => by have := XD.out.lt; have h9 : w.heap.size < WA.heap.size := XD.out.lt; omega)); have H8 := Lib.hid HQE.out; clear FT; have S3 : World.cell? w3 ⟨w1.heap.size, 0, none⟩ = some (Value.int .i64 ek) ∧ World.cell? w3 ⟨w1.heap.size, 1, none⟩ = some (Value.string et) ∧ World.cell? w3 ⟨w1.heap.size, 2, none⟩ = some (Value.int .i64 ea) := ⟨(T2.out.below hbx).c0, (T2.out.below hbx).c1, (T2.out.below hbx).c2⟩; clear hbx hb3 qq) | (go_at_call 59; (with_reducible refine (pnode_any _ _ _ _ _ _ _).mono ?_); rintro e w3 ⟨rfl, hb3⟩; have hbx : Below (w2.alloc (Obj.cells #[.int .i64 0, .int .i64 0, .string ⟨#[]⟩, .int .i64 0, .slice none 0 0] 25)).heap.size (w2.alloc (Obj.cells #[.int .i64 0, .int .i64 0, .string ⟨#[]⟩, .int .i64 0, .slice none 0 0] 25)) w3 := hb3; have Q3 := Lib.hid ((Bx5.new w2 (.int .i64 0) (.int .i64 0) (.string ⟨#[]⟩) (.int .i64 0) (.slice none 0 0)).below hbx); obtain ⟨g0, g1, g2, g3, g4, gf, gl⟩ := Q3.out; have gf0 := gf 0; have gf1 := gf 1; have gf2 := gf 2; have gf3 := gf 3; have gf4 := gf 4; clear gf gl; have FT := Lib.hid (store5 HA0.out ((B2.out.alloc HRW.out (Obj.cells #[.int .i64 0, .int .i64 0, .string ⟨#[]⟩, .int .i64 0, .slice none 0 0] 25)).trans (Butt.of_below (A2.out.alloc (Obj.cells #[.int .i64 0, .int .i64 0, .string ⟨#[]⟩, .int .i64 0, .slice none 0 0] 25)).fix.lt hbx)) ((A2.out.alloc (Obj.cells #[.int .i64 0, .int .i64 0, .string ⟨#[]⟩, .int .i64 0, .slice none 0 0] 25)).below hbx) Q3.out HQ2.out (.int .i64 8) (.int .i64 ea) (.string ut) (.int .i64 0) (.slice none 0 0) _ rfl); have A8 := Lib.hid FT.out.2.1; have B8 := Lib.hid FT.out.2.2.1; have Q8 := Lib.hid FT.out.1; have X8 := Lib.hid (((X2.out.alloc (Obj.cells #[.int .i64 0, .int .i64 0, .string ⟨#[]⟩, .int .i64 0, .slice none 0 0] 25)).below hbx).kept (fun e => by have := X2.out.lt; omega) FT.out.2.2.2); have T8 := Lib.hid (((T2.out.alloc (Obj.cells #[.int .i64 0, .int .i64 0, .string ⟨#[]⟩, .int .i64 0, .slice none 0 0] 25)).below hbx).kept (fun e => by have := T2.out.lt; have := TD.out.lt; first | omega | (have h9 : w1.heap.size < WA.heap.size := TD.out.lt; omega)) FT.out.2.2.2); have S8 : World.cell? (((((w3.setCell ⟨w2.heap.size, 0, none⟩ (.int .i64 8)).setCell ⟨w2.heap.size, 1, none⟩ (.int .i64 ea)).setCell ⟨w2.heap.size, 2, none⟩ (.string ut)).setCell ⟨w2.heap.size, 3, none⟩ (.int .i64 0)).setCell ⟨w2.heap.size, 4, none⟩ (.slice none 0 0)) ⟨w1.heap.size, 0, none⟩ = some (Value.int .i64 ek) ∧ World.cell? (((((w3.setCell ⟨w2.heap.size, 0, none⟩ (.int .i64 8)).setCell ⟨w2.heap.size, 1, none⟩ (.int .i64 ea)).setCell ⟨w2.heap.size, 2, none⟩ (.string ut)).setCell ⟨w2.heap.size, 3, none⟩ (.int .i64 0)).setCell ⟨w2.heap.size, 4, none⟩ (.slice none 0 0)) ⟨w1.heap.size, 1, none⟩ = some (Value.string et) ∧ World.cell? (((((w3.setCell ⟨w2.heap.size, 0, none⟩ (.int .i64 8)).setCell ⟨w2.heap.size, 1, none⟩ (.int .i64 ea)).setCell ⟨w2.heap.size, 2, none⟩ (.string ut)).setCell ⟨w2.heap.size, 3, none⟩ (.int .i64 0)).setCell ⟨w2.heap.size, 4, none⟩ (.slice none 0 0)) ⟨w1.heap.size, 2, none⟩ = some (Value.int .i64 ea) := ⟨T8.out.c0, T8.out.c1, T8.out.c2⟩; have N8 : Hid (w2.heap.size ≠ w.heap.size) := Lib.hid (Ne.symm (fun e => by have := X2.out.lt; omega)); have H8 := Lib.hid HQ2.out; clear FT; have S3 : World.cell? w3 ⟨w1.heap.size, 0, none⟩ = some (Value.int .i64 ek) ∧ World.cell? w3 ⟨w1.heap.size, 1, none⟩ = some (Value.string et) ∧ World.cell? w3 ⟨w1.heap.size, 2, none⟩ = some (Value.int .i64 ea) := ⟨((T2.out.alloc (Obj.cells #[.int .i64 0, .int .i64 0, .string ⟨#[]⟩, .int .i64 0, .slice none 0 0] 25)).below hbx).c0, ((T2.out.alloc (Obj.cells #[.int .i64 0, .int .i64 0, .string ⟨#[]⟩, .int .i64 0, .slice none 0 0] 25)).below hbx).c1, ((T2.out.alloc (Obj.cells #[.int .i64 0, .int .i64 0, .string ⟨#[]⟩, .int .i64 0, .slice none 0 0] 25)).below hbx).c2⟩; clear hbx hb3) | (go_at_call 59; (with_reducible refine (pnode_any _ _ _ _ _ _ _).mono ?_); rintro e w3 ⟨rfl, hb3⟩; have hbx : Below w2.heap.size w2 w3 := hb3; have HQ3 : Hid (w.heap.size ≤ w3.heap.size) := Lib.hid (Nat.le_trans HQ2.out hbx.size); have X3 := Lib.hid (X2.out.below hbx); have A8 := Lib.hid ((A2.out.below hbx).alloc (Obj.cells #[.int .i64 8, .int .i64 ea, .string ut, .int .i64 0, .slice none 0 0] 25)); have B8 := Lib.hid ((B2.out.trans (Butt.of_below A2.out.fix.lt hbx)).alloc HRW.out (Obj.cells #[.int .i64 8, .int .i64 ea, .string ut, .int .i64 0, .slice none 0 0] 25)); have Q8 := Lib.hid (Bx5.new w3 (.int .i64 8) (.int .i64 ea) (.string ut) (.int .i64 0) (.slice none 0 0)); have X8 := Lib.hid (X3.out.alloc (Obj.cells #[.int .i64 8, .int .i64 ea, .string ut, .int .i64 0, .slice none 0 0] 25)); have T8 := Lib.hid ((T2.out.below hbx).alloc (Obj.cells #[.int .i64 8, .int .i64 ea, .string ut, .int .i64 0, .slice none 0 0] 25)); have S8 : World.cell? (w3.alloc (Obj.cells #[.int .i64 8, .int .i64 ea, .string ut, .int .i64 0, .slice none 0 0] 25)) ⟨w1.heap.size, 0, none⟩ = some (Value.int .i64 ek) ∧ World.cell? (w3.alloc (Obj.cells #[.int .i64 8, .int .i64 ea, .string ut, .int .i64 0, .slice none 0 0] 25)) ⟨w1.heap.size, 1, none⟩ = some (Value.string et) ∧ World.cell? (w3.alloc (Obj.cells #[.int .i64 8, .int .i64 ea, .string ut, .int .i64 0, .slice none 0 0] 25)) ⟨w1.heap.size, 2, none⟩ = some (Value.int .i64 ea) := ⟨T8.out.c0, T8.out.c1, T8.out.c2⟩; have N8 : Hid (w3.heap.size ≠ w.heap.size) := Lib.hid (fun e => by have := X3.out.lt; omega); have H8 := HQ3; have S3 : World.cell? w3 ⟨w1.heap.size, 0, none⟩ = some (Value.int .i64 ek) ∧ World.cell? w3 ⟨w1.heap.size, 1, none⟩ = some (Value.string et) ∧ World.cell? w3 ⟨w1.heap.size, 2, none⟩ = some (Value.int .i64 ea) := ⟨(T2.out.below hbx).c0, (T2.out.below hbx).c1, (T2.out.below hbx).c2⟩; have S3a : World.cell? (w3.alloc (Obj.cells #[.int .i64 0, .int .i64 0, .string ⟨#[]⟩, .int .i64 0, .slice none 0 0] 25)) ⟨w1.heap.size, 0, none⟩ = some (Value.int .i64 ek) ∧ World.cell? (w3.alloc (Obj.cells #[.int .i64 0, .int .i64 0, .string ⟨#[]⟩, .int .i64 0, .slice none 0 0] 25)) ⟨w1.heap.size, 1, none⟩ = some (Value.string et) ∧ World.cell? (w3.alloc (Obj.cells #[.int .i64 0, .int .i64 0, .string ⟨#[]⟩, .int .i64 0, .slice none 0 0] 25)) ⟨w1.heap.size, 2, none⟩ = some (Value.int .i64 ea) := ⟨((T2.out.below hbx).alloc (Obj.cells #[.int .i64 0, .int .i64 0, .string ⟨#[]⟩, .int .i64 0, .slice none 0 0] 25)).c0, ((T2.out.below hbx).alloc (Obj.cells #[.int .i64 0, .int .i64 0, .string ⟨#[]⟩, .int .i64 0, .slice none 0 0] 25)).c1, ((T2.out.below hbx).alloc (Obj.cells #[.int .i64 0, .int .i64 0, .string ⟨#[]⟩, .int .i64 0, .slice none 0 0] 25)).c2⟩; clear hbx hb3))
  all_goals
    have P8 : Hid (∀ q, w.heap.size ≤ q → q ≠ R) := Lib.hid (fun q hq e => by have := HRW.out; omega)
    have PXQ := Lib.hid (P8.out _ H8.out)
    clear SD SE S2 S2a S3 S8
    go_wp2_with (go_at_call 55; refine (sexpect A8.out ⟨#[91]⟩).mono ?_; rintro e w4 ⟨rfl, ha4, hb4⟩; refine Hid.out ?_)
    have A4 := Lib.hid ha4; have B4 := Lib.hid (B8.out.trans hb4)
    have XR4 := Lib.hid (X8.out.butt HPR.out hb4)
    have XQ4 := Lib.hid (Q8.out.butt PXQ.out hb4)
    clear ha4 hb4
    refine Lib.hid ?_
    go_wp2_with (go_at_call 163; refine (plength HNL.out A4.out).mono ?_; rintro e w5 ⟨n, s2, rfl, hm, ha5, hb5⟩; refine Hid.out ?_)
    have HMN := Lib.hid hm; clear hm
    have A5 := Lib.hid ha5; have B5 := Lib.hid (B4.out.trans hb5)
    have XR5 := Lib.hid (XR4.out.butt HPR.out hb5)
    have XQ5 := Lib.hid (XQ4.out.butt PXQ.out hb5)
    clear ha5 hb5
    refine Lib.hid ?_
    have FN := Lib.hid (At.setNum (i := 3) HA0.out B5.out A5.out H8.out (.int .i64 n))
    have qf3 := XQ5.out.free 3; have qc3 := XQ5.out.c3
    have A7 := Lib.hid FN.out.1; have B7 := Lib.hid FN.out.2.1; have XQ7 := Lib.hid (XQ5.out.setNum (.int .i64 n)); have XR7 := Lib.hid (XR5.out.kept (Ne.symm N8.out) FN.out.2.2)
    clear FN
    go_wp2_with (go_at_call 55; refine (sexpect A7.out ⟨#[93]⟩).mono ?_; rintro e w8 ⟨rfl, ha8, hb8⟩; refine Hid.out ?_)
    have A8 := Lib.hid ha8; have B8 := Lib.hid (B7.out.trans hb8)
    have XR8 := Lib.hid (XR7.out.butt HPR.out hb8)
    have XQ8 := Lib.hid (XQ7.out.butt PXQ.out hb8)
    clear ha8 hb8
    refine Lib.hid ?_
    go_wp2_with (go_at_call 55; refine (sexpect A8.out ⟨#[59]⟩).mono ?_; rintro e w9 ⟨rfl, ha9, hb9⟩; refine Hid.out ?_)
    have A9 := Lib.hid ha9; have B9 := Lib.hid (B8.out.trans hb9)
    have XR9 := Lib.hid (XR8.out.butt HPR.out hb9)
    have XQ9 := Lib.hid (XQ8.out.butt PXQ.out hb9)
    clear ha9 hb9
    refine Lib.hid ?_
    have zXQ := XQ9.out
    have yXQ0 := zXQ.c0
    have yXQ1 := zXQ.c1
    have yXQ2 := zXQ.c2
    have yXQ3 := zXQ.c3
    have yXQ4 := zXQ.c4
    clear zXQ
    have TN := Lib.hid ((synIn_mk (A := offs w.heap.size [w.heap.size]) (W := w9) (kids := []) (k := 8) (a := ea) (n := n) (t := ut)).mpr ⟨_, rfl, Or.inl ⟨rfl, rfl⟩⟩)
    have FT := Lib.hid (store5 HA0.out B9.out A9.out XR9.out (Nat.le_refl _) (.int .i64 8) (.int .i64 ea) (.string ut) (.int .i64 n) (.slice none 0 0) _ rfl)
    have GX := Lib.hid ((TN.out).kept (by simp) FT.out.2.2.2).at
    have zXR := XR9.out
    have yXR0 := zXR.c0
    have yXR1 := zXR.c1
    have yXR2 := zXR.c2
    have yXR3 := zXR.c3
    have yXR4 := zXR.c4
    have fXR0 := zXR.free 0
    have fXR1 := zXR.free 1
    have fXR2 := zXR.free 2
    have fXR3 := zXR.free 3
    have fXR4 := zXR.free 4
    clear zXR
    obtain ⟨r0, r1, r2, r3, r4⟩ := FT.out.1
    have GA := Lib.hid FT.out.2.1; have GB := Lib.hid FT.out.2.2.1
    clear FT
    go_wp2
    refine bodyPost_ret (by simp [results, Tryz.results141, go_sem, r0, r1, r2, r3, r4]; rfl) rfl ?_
    exact ⟨_, _, _, rfl, GX.out, HM.out _ _ _ ⟨uk, ut, ua⟩ _ HNM.out HMN.out rfl, GA.out, GB.out⟩
end Go.Proofs.YtdibcllakkjegaaGreatDoor

set_option linter.unusedSimpArgs false
set_option linter.unusedVariables false
namespace Go.Proofs.YtdibcllakkjegaaGreatDoor
open Go Go.Proofs Go.RowKit
theorem ebind_ok {α β : Type} {m : Except (Int × Nat) α} {k : α → Except (Int × Nat) β} {r : β} (h : (m >>= k) = .ok r) : ∃ a, m = .ok a ∧ k a = .ok r := by
  cases m with
  | error e => cases h
  | ok a => exact ⟨a, rfl, h⟩
def Mono {α : Type} (f : Nat) (m : Rd α) : Prop := ∀ l x l', m f l = .ok (x, l') → l'.length ≤ l.length
section
variable {α β : Type} {f : Nat}
theorem Mono.bind {m : Rd α} {k : α → Rd β} (h : Mono f m) (g : ∀ x, Mono f (k x)) : Mono f (mBind m k) := by
  intro l y l' e
  obtain ⟨⟨x, l1⟩, e1, e2⟩ := ebind_ok e
  exact Nat.le_trans (g x l1 y l' e2) (h l x l1 e1)
theorem Mono.ite {c : Prop} [Decidable c] {m k : Rd α} (h : Mono f m) (g : Mono f k) : Mono f (if c then m else k) := by split <;> assumption
theorem Mono.ret {x : α} : Mono f (mRet x) := by intro l y l' e; cases e; exact Nat.le_refl _
theorem Mono.peek : Mono f mPeek := by intro l y l' e; cases e; exact Nat.le_refl _
theorem Mono.take : Mono f mTake := by intro l y l' e; cases e; exact pTl_len _
theorem Mono.is {s : List UInt8} : Mono f (mIs s) := by intro l y l' e; cases e; exact Nat.le_refl _
theorem Mono.next : Mono f mNext := by intro l y l' e; cases e; exact Nat.le_refl _
theorem Mono.named : Mono f mNamed := by intro l y l' e; cases e; exact Nat.le_refl _
theorem Mono.name : Mono f mName := by
  intro l y l' e
  unfold mName pName at e
  split at e
  · cases e; exact pTl_len _
  · cases e
theorem Mono.need {s : List UInt8} : Mono f (mNeed s) := by
  intro l y l' e
  unfold mNeed at e
  split at e
  · cases e; exact pTl_len _
  · cases e
theorem Mono.enter {s : List UInt8} {d : Nat} : Mono f (mEnter s d) := by
  intro l y l' e
  unfold mEnter at e
  split at e
  · split at e
    · cases e
    · cases e; exact pTl_len _
  · cases e
theorem Mono.num : Mono f mNum := by
  intro l y l' e
  unfold mNum at e
  split at e
  · split at e
    · cases e
    · cases e; exact pTl_len _
  · cases e
theorem Mono.of {m k : Rd α} (h : Mono f m) (e : ∀ l, k f l = m f l) : Mono f k := fun l x l' g => h l x l' ((e l).symm.trans g)
end
theorem Mono.before {f d : Nat} {s : List UInt8} {w : Want} (h : Mono f (mRead (.list w) d)) : Mono f (mBefore s w d) := by
  intro l y l' e
  unfold mBefore at e
  split at e
  · cases e; exact Nat.le_refl _
  · exact h l y l' e
theorem mono_read (f : Nat) : ∀ (w : Want) (d : Nat), Mono f (mRead w d) := by
  induction f with
  | zero => intro w d l x l' e; unfold mRead at e; rw [pRead] at e; cases e
  | succ f ih =>
    have H : ∀ w d l x l', pRead f w d l = .ok (x, l') → l'.length ≤ l.length := fun w d l x l' e => ih w d l x l' e
    have hN : ∀ l t l', pName l = .ok (t, l') → l'.length ≤ l.length := fun l t l' e => Mono.name (f := f) l t l' e
    have hD : ∀ s l l', pNeed s l = .ok l' → l'.length ≤ l.length := fun s l l' e => by
      unfold pNeed at e
      split at e
      · cases e; exact pTl_len _
      · cases e
    have hT := pTl_len
    intro w d
    cases w with
    | lvl i =>
      intro l x l' e
      unfold mRead at e
      rw [pRead] at e
      split at e
      · split at e
        · split at e
          · cases e
          · obtain ⟨⟨y, l1⟩, e1, e2⟩ := ebind_ok e
            cases e2
            exact Nat.le_trans (H _ _ _ _ _ e1) (hT l)
        · exact H _ _ _ _ _ e
      · split at e
        · obtain ⟨⟨y, l1⟩, e1, e2⟩ := ebind_ok e
          have g1 := H _ _ _ _ _ e1
          dsimp only at e2
          split at e2
          · obtain ⟨⟨z, l2⟩, e3, e4⟩ := ebind_ok e2
            cases e4
            exact Nat.le_trans (H _ _ _ _ _ e3) (Nat.le_trans (hT l1) g1)
          · cases e2; exact g1
        · split at e
          · split at e
            · cases e; exact hT l
            · split at e
              · cases e; exact hT l
              · split at e
                · split at e
                  · cases e
                  · obtain ⟨⟨y, l1⟩, e1, e2⟩ := ebind_ok e
                    obtain ⟨l2, e3, e4⟩ := ebind_ok e2
                    cases e4
                    exact Nat.le_trans (hD _ _ _ e3) (Nat.le_trans (H _ _ _ _ _ e1) (hT l))
                · exact H _ _ _ _ _ e
          · obtain ⟨⟨y, l1⟩, e1, e2⟩ := ebind_ok e
            exact Nat.le_trans (H _ _ _ _ _ e2) (H _ _ _ _ _ e1)
    | rep i a x0 =>
      intro l x l' e
      unfold mRead at e
      rw [pRead] at e
      split at e
      · obtain ⟨⟨y, l1⟩, e1, e2⟩ := ebind_ok e
        exact Nat.le_trans (H _ _ _ _ _ e2) (Nat.le_trans (H _ _ _ _ _ e1) (hT l))
      · cases e; exact Nat.le_refl _
    | bare =>
      intro l x l' e
      unfold mRead at e
      rw [pRead] at e
      obtain ⟨⟨t, l1⟩, e1, e2⟩ := ebind_ok e
      cases e2; exact hN _ _ _ e1
    | place =>
      intro l x l' e
      unfold mRead at e
      rw [pRead] at e
      obtain ⟨⟨t, l1⟩, e1, e2⟩ := ebind_ok e
      have g1 := hN _ _ _ e1
      dsimp only at e2
      split at e2
      · obtain ⟨⟨z, l2⟩, e3, e4⟩ := ebind_ok e2
        cases e4
        exact Nat.le_trans (H _ _ _ _ _ e3) (Nat.le_trans (hT l1) g1)
      · cases e2; exact g1
    | param =>
      intro l x l' e
      unfold mRead at e
      rw [pRead] at e
      obtain ⟨⟨t, l1⟩, e1, e2⟩ := ebind_ok e
      have g1 := hN _ _ _ e1
      dsimp only at e2
      split at e2
      · obtain ⟨⟨z, l2⟩, e3, e4⟩ := ebind_ok e2
        cases e4
        exact Nat.le_trans (H _ _ _ _ _ e3) (Nat.le_trans (hT l1) g1)
      · cases e2; exact g1
    | list w =>
      intro l x l' e
      unfold mRead at e
      rw [pRead] at e
      obtain ⟨⟨t, l1⟩, e1, e2⟩ := ebind_ok e
      have g1 := H _ _ _ _ _ e1
      dsimp only at e2
      split at e2
      · obtain ⟨⟨z, l2⟩, e3, e4⟩ := ebind_ok e2
        cases e4
        exact Nat.le_trans (H _ _ _ _ _ e3) (Nat.le_trans (hT l1) g1)
      · cases e2; exact g1
    | cond =>
      intro l x l' e
      unfold mRead at e
      rw [pRead] at e
      exact H _ _ _ _ _ e
    | load =>
      intro l x l' e
      unfold mRead at e
      rw [eq_load] at e
      revert l x l'
      show Mono f (mLoad d)
      unfold mLoad
      repeat' (first | exact Mono.take | exact Mono.peek | exact Mono.is | exact Mono.next | exact Mono.named | exact Mono.name | exact Mono.need | exact Mono.enter | exact Mono.num | exact Mono.ret | exact ih _ _ | exact Mono.before (ih _ _) | (refine Mono.bind ?_ (fun _ => ?_)) | (refine Mono.ite ?_ ?_) | (unfold mStore) | (unfold mCallSt) | (unfold mAssign) | (unfold mChoice) | (unfold mLoop) | (unfold mClaim) | (unfold mVars) | (unfold mArray) | (unfold mParams) | (unfold mResults) | (unfold mWhen))
    | call =>
      intro l x l' e
      unfold mRead at e
      rw [eq_call] at e
      revert l x l'
      show Mono f (mCall d)
      unfold mCall
      repeat' (first | exact Mono.take | exact Mono.peek | exact Mono.is | exact Mono.next | exact Mono.named | exact Mono.name | exact Mono.need | exact Mono.enter | exact Mono.num | exact Mono.ret | exact ih _ _ | exact Mono.before (ih _ _) | (refine Mono.bind ?_ (fun _ => ?_)) | (refine Mono.ite ?_ ?_) | (unfold mStore) | (unfold mCallSt) | (unfold mAssign) | (unfold mChoice) | (unfold mLoop) | (unfold mClaim) | (unfold mVars) | (unfold mArray) | (unfold mParams) | (unfold mResults) | (unfold mWhen))
    | right =>
      intro l x l' e
      unfold mRead at e
      rw [eq_right] at e
      revert l x l'
      show Mono f (mRight d)
      unfold mRight
      repeat' (first | exact Mono.take | exact Mono.peek | exact Mono.is | exact Mono.next | exact Mono.named | exact Mono.name | exact Mono.need | exact Mono.enter | exact Mono.num | exact Mono.ret | exact ih _ _ | exact Mono.before (ih _ _) | (refine Mono.bind ?_ (fun _ => ?_)) | (refine Mono.ite ?_ ?_) | (unfold mStore) | (unfold mCallSt) | (unfold mAssign) | (unfold mChoice) | (unfold mLoop) | (unfold mClaim) | (unfold mVars) | (unfold mArray) | (unfold mParams) | (unfold mResults) | (unfold mWhen))
    | block =>
      intro l x l' e
      unfold mRead at e
      rw [eq_block] at e
      revert l x l'
      show Mono f (mBlock d)
      unfold mBlock
      repeat' (first | exact Mono.take | exact Mono.peek | exact Mono.is | exact Mono.next | exact Mono.named | exact Mono.name | exact Mono.need | exact Mono.enter | exact Mono.num | exact Mono.ret | exact ih _ _ | exact Mono.before (ih _ _) | (refine Mono.bind ?_ (fun _ => ?_)) | (refine Mono.ite ?_ ?_) | (unfold mStore) | (unfold mCallSt) | (unfold mAssign) | (unfold mChoice) | (unfold mLoop) | (unfold mClaim) | (unfold mVars) | (unfold mArray) | (unfold mParams) | (unfold mResults) | (unfold mWhen))
    | chain a =>
      intro l x l' e
      unfold mRead at e
      rw [eq_chain] at e
      revert l x l'
      show Mono f (mChain a d)
      unfold mChain
      repeat' (first | exact Mono.take | exact Mono.peek | exact Mono.is | exact Mono.next | exact Mono.named | exact Mono.name | exact Mono.need | exact Mono.enter | exact Mono.num | exact Mono.ret | exact ih _ _ | exact Mono.before (ih _ _) | (refine Mono.bind ?_ (fun _ => ?_)) | (refine Mono.ite ?_ ?_) | (unfold mStore) | (unfold mCallSt) | (unfold mAssign) | (unfold mChoice) | (unfold mLoop) | (unfold mClaim) | (unfold mVars) | (unfold mArray) | (unfold mParams) | (unfold mResults) | (unfold mWhen))
    | stmts =>
      intro l x l' e
      unfold mRead at e
      rw [eq_stmts] at e
      revert l x l'
      show Mono f (mStmts d)
      unfold mStmts
      repeat' (first | exact Mono.take | exact Mono.peek | exact Mono.is | exact Mono.next | exact Mono.named | exact Mono.name | exact Mono.need | exact Mono.enter | exact Mono.num | exact Mono.ret | exact ih _ _ | exact Mono.before (ih _ _) | (refine Mono.bind ?_ (fun _ => ?_)) | (refine Mono.ite ?_ ?_) | (unfold mStore) | (unfold mCallSt) | (unfold mAssign) | (unfold mChoice) | (unfold mLoop) | (unfold mClaim) | (unfold mVars) | (unfold mArray) | (unfold mParams) | (unfold mResults) | (unfold mWhen))
    | stmt =>
      intro l x l' e
      unfold mRead at e
      rw [eq_stmt] at e
      revert l x l'
      show Mono f (mStmt d)
      unfold mStmt
      repeat' (first | exact Mono.take | exact Mono.peek | exact Mono.is | exact Mono.next | exact Mono.named | exact Mono.name | exact Mono.need | exact Mono.enter | exact Mono.num | exact Mono.ret | exact ih _ _ | exact Mono.before (ih _ _) | (refine Mono.bind ?_ (fun _ => ?_)) | (refine Mono.ite ?_ ?_) | (unfold mStore) | (unfold mCallSt) | (unfold mAssign) | (unfold mChoice) | (unfold mLoop) | (unfold mClaim) | (unfold mVars) | (unfold mArray) | (unfold mParams) | (unfold mResults) | (unfold mWhen))
    | decls =>
      intro l x l' e
      unfold mRead at e
      rw [eq_decls] at e
      revert l x l'
      show Mono f (mDecls d)
      unfold mDecls
      repeat' (first | exact Mono.take | exact Mono.peek | exact Mono.is | exact Mono.next | exact Mono.named | exact Mono.name | exact Mono.need | exact Mono.enter | exact Mono.num | exact Mono.ret | exact ih _ _ | exact Mono.before (ih _ _) | (refine Mono.bind ?_ (fun _ => ?_)) | (refine Mono.ite ?_ ?_) | (unfold mStore) | (unfold mCallSt) | (unfold mAssign) | (unfold mChoice) | (unfold mLoop) | (unfold mClaim) | (unfold mVars) | (unfold mArray) | (unfold mParams) | (unfold mResults) | (unfold mWhen))
    | body =>
      intro l x l' e
      unfold mRead at e
      rw [eq_body] at e
      revert l x l'
      show Mono f (mBody d)
      unfold mBody
      repeat' (first | exact Mono.take | exact Mono.peek | exact Mono.is | exact Mono.next | exact Mono.named | exact Mono.name | exact Mono.need | exact Mono.enter | exact Mono.num | exact Mono.ret | exact ih _ _ | exact Mono.before (ih _ _) | (refine Mono.bind ?_ (fun _ => ?_)) | (refine Mono.ite ?_ ?_) | (unfold mStore) | (unfold mCallSt) | (unfold mAssign) | (unfold mChoice) | (unfold mLoop) | (unfold mClaim) | (unfold mVars) | (unfold mArray) | (unfold mParams) | (unfold mResults) | (unfold mWhen))
    | record =>
      intro l x l' e
      unfold mRead at e
      rw [eq_record] at e
      revert l x l'
      show Mono f (mRecord d)
      unfold mRecord
      repeat' (first | exact Mono.take | exact Mono.peek | exact Mono.is | exact Mono.next | exact Mono.named | exact Mono.name | exact Mono.need | exact Mono.enter | exact Mono.num | exact Mono.ret | exact ih _ _ | exact Mono.before (ih _ _) | (refine Mono.bind ?_ (fun _ => ?_)) | (refine Mono.ite ?_ ?_) | (unfold mStore) | (unfold mCallSt) | (unfold mAssign) | (unfold mChoice) | (unfold mLoop) | (unfold mClaim) | (unfold mVars) | (unfold mArray) | (unfold mParams) | (unfold mResults) | (unfold mWhen))
    | proc =>
      intro l x l' e
      unfold mRead at e
      rw [eq_proc] at e
      revert l x l'
      show Mono f (mProc d)
      unfold mProc
      repeat' (first | exact Mono.take | exact Mono.peek | exact Mono.is | exact Mono.next | exact Mono.named | exact Mono.name | exact Mono.need | exact Mono.enter | exact Mono.num | exact Mono.ret | exact ih _ _ | exact Mono.before (ih _ _) | (refine Mono.bind ?_ (fun _ => ?_)) | (refine Mono.ite ?_ ?_) | (unfold mStore) | (unfold mCallSt) | (unfold mAssign) | (unfold mChoice) | (unfold mLoop) | (unfold mClaim) | (unfold mVars) | (unfold mArray) | (unfold mParams) | (unfold mResults) | (unfold mWhen))
    | program a =>
      intro l x l' e
      unfold mRead at e
      rw [eq_program] at e
      revert l x l'
      show Mono f (mProgram a d)
      unfold mProgram
      repeat' (first | exact Mono.take | exact Mono.peek | exact Mono.is | exact Mono.next | exact Mono.named | exact Mono.name | exact Mono.need | exact Mono.enter | exact Mono.num | exact Mono.ret | exact ih _ _ | exact Mono.before (ih _ _) | (refine Mono.bind ?_ (fun _ => ?_)) | (refine Mono.ite ?_ ?_) | (unfold mStore) | (unfold mCallSt) | (unfold mAssign) | (unfold mChoice) | (unfold mLoop) | (unfold mClaim) | (unfold mVars) | (unfold mArray) | (unfold mParams) | (unfold mResults) | (unfold mWhen))
def Less {α : Type} (f : Nat) (m : Rd α) : Prop := ∀ l x l', 2 ≤ l.length → m f l = .ok (x, l') → l'.length < l.length
def Keep {α : Type} (f : Nat) (m : Rd α) : Prop := ∀ l x l', m f l = .ok (x, l') → l' = l
theorem pTl_less {l : List Tk} (h : 2 ≤ l.length) : (pTl l).length < l.length := by
  match l, h with
  | x :: y :: r, _ => simp [pTl]
theorem Less.bind {α β : Type} {f : Nat} {m : Rd α} {k : α → Rd β} (h : Less f m) (g : ∀ x, Mono f (k x)) : Less f (mBind m k) := by
  intro l y l' h2 e
  obtain ⟨⟨x, l1⟩, e1, e2⟩ := ebind_ok e
  exact Nat.lt_of_le_of_lt (g x l1 y l' e2) (h l x l1 h2 e1)
theorem Less.keep {α β : Type} {f : Nat} {m : Rd α} {k : α → Rd β} (h : Keep f m) (g : ∀ x, Less f (k x)) : Less f (mBind m k) := by
  intro l y l' h2 e
  obtain ⟨⟨x, l1⟩, e1, e2⟩ := ebind_ok e
  have e3 := h l x l1 e1
  subst e3
  exact g x l1 y l' h2 e2
theorem Less.ite {α : Type} {f : Nat} {c : Prop} [Decidable c] {m k : Rd α} (h : Less f m) (g : Less f k) : Less f (if c then m else k) := by split <;> assumption
theorem Less.take {f : Nat} : Less f mTake := by intro l x l' h e; cases e; exact pTl_less h
theorem Less.name {f : Nat} : Less f mName := by
  intro l x l' h e
  unfold mName pName at e
  split at e
  · cases e; exact pTl_less h
  · cases e
theorem Less.load {f d : Nat} : Less f (mRead .load d) := by
  intro l x l' h e
  cases f with
  | zero => unfold mRead at e; rw [pRead] at e; cases e
  | succ f =>
    unfold mRead at e
    rw [eq_load] at e
    exact Less.bind (f := f) Less.name (fun _ => Mono.bind Mono.need (fun _ => Mono.bind (mono_read _ _ _) (fun _ => Mono.bind Mono.need (fun _ => Mono.ret)))) l x l' h e
theorem Less.call {f d : Nat} : Less f (mRead .call d) := by
  intro l x l' h e
  cases f with
  | zero => unfold mRead at e; rw [pRead] at e; cases e
  | succ f =>
    unfold mRead at e
    rw [eq_call] at e
    exact Less.bind (f := f) Less.name (fun _ => Mono.bind Mono.need (fun _ => Mono.bind (Mono.before (mono_read _ _ _)) (fun _ => Mono.bind Mono.need (fun _ => Mono.ret)))) l x l' h e
theorem Less.places {f d : Nat} : Less f (mRead (.list .place) d) := by
  intro l x l' h e
  cases f with
  | zero => unfold mRead at e; rw [pRead] at e; cases e
  | succ f =>
    unfold mRead at e
    rw [pRead] at e
    obtain ⟨⟨y, l1⟩, e1, e2⟩ := ebind_ok e
    have g1 : l1.length < l.length := by
      cases f with
      | zero => rw [pRead] at e1; cases e1
      | succ f =>
        rw [pRead] at e1
        obtain ⟨⟨t, l0⟩, e3, e4⟩ := ebind_ok e1
        have g0 := Less.name (f := f) l t l0 h e3
        dsimp only at e4
        split at e4
        · obtain ⟨⟨z, l2⟩, e5, e6⟩ := ebind_ok e4
          cases e6
          have := mono_read f .bare d _ _ _ e5
          have := pTl_len l0
          show l2.length < l.length
          omega
        · cases e4; exact g0
    dsimp only at e2
    split at e2
    · obtain ⟨⟨z, l2⟩, e3, e4⟩ := ebind_ok e2
      cases e4
      have := mono_read f (.list .place) d _ _ _ e3
      have := pTl_len l1
      show l2.length < l.length
      omega
    · cases e2; exact g1
theorem Less.stmt {f d : Nat} : Less f (mRead .stmt d) := by
  intro l x l' h e
  cases f with
  | zero => unfold mRead at e; rw [pRead] at e; cases e
  | succ f =>
    unfold mRead at e
    rw [eq_stmt] at e
    revert h e
    revert l x l'
    show Less f (mStmt d)
    have K1 : Keep f mPeek := by intro l y l' e; cases e; rfl
    have K2 : ∀ s, Keep f (mIs s) := by intro s l y l' e; cases e; rfl
    have K3 : Keep f mNext := by intro l y l' e; cases e; rfl
    have K4 : Keep f mNamed := by intro l y l' e; cases e; rfl
    have M := mono_read f
    unfold mStmt mStore mCallSt mAssign mChoice mLoop mClaim
    refine Less.keep K4 fun _ => Less.ite (Less.keep K3 fun _ => Less.ite ?_ (Less.ite ?_ ?_)) (Less.keep (K2 _) fun _ => Less.ite ?_ (Less.keep (K2 _) fun _ => Less.ite ?_ (Less.keep (K2 _) fun _ => Less.ite ?_ ?_)))
    · exact Less.keep K1 fun _ => Less.bind Less.load fun _ => Mono.bind Mono.need fun _ => Mono.bind (M _ _) fun _ => Mono.bind Mono.need fun _ => Mono.ret
    · exact Less.keep K1 fun _ => Less.bind Less.call fun _ => Mono.bind Mono.need fun _ => Mono.ret
    · exact Less.keep K1 fun _ => Less.bind Less.places fun _ => Mono.bind Mono.need fun _ => Mono.bind (M _ _) fun _ => Mono.bind Mono.need fun _ => Mono.ret
    · exact Less.bind Less.take fun _ => M _ _
    · exact Less.bind Less.take fun _ => Mono.bind (M _ _) fun _ => Mono.bind (M _ _) fun _ => Mono.ret
    · exact Less.bind Less.take fun _ => Mono.bind (M _ _) fun _ => Mono.bind Mono.need fun _ => Mono.ret
    · exact Less.bind Less.take fun _ => Mono.bind (M _ _) fun _ => Mono.bind Mono.need fun _ => Mono.ret
theorem stmt_rem {d : Nat} {l : List Tk} {xs : List Syn} {st' : RSt} (h2 : 2 ≤ l.length) (h : Stp .stmt d (.ok l) xs st') : st'.rem + 1 ≤ l.length := by
  rcases elS h with ⟨l1, rfl, -, -, N, hN⟩ | ⟨a, e, -, rfl, -⟩
  · exact Less.stmt (f := N) l xs l1 h2 (hN N (Nat.le_refl _))
  · show 0 + 1 ≤ _
    omega
end Go.Proofs.YtdibcllakkjegaaGreatDoor
