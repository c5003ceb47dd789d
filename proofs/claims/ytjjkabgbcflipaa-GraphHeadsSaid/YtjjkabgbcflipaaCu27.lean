import Derived.Test.YtjjkabgbcflipaaCu26
import Derived.Test.YtjjkabgbcflipaaCu20
import Derived.Lib.QuietBelow
set_option linter.unusedSimpArgs false
set_option linter.unusedVariables false
namespace Go.Proofs.Ytjjkabgbcflipaa
open Go Go.Proofs Go.RowKit Go.Shelf GM

attribute [local go_sem] Oper.semAt_some

def turn (d : Ed) : Ed := zE d.t d.f
set_option maxRecDepth 100000 in
set_option maxHeartbeats 600000 in
theorem turned_any {A : Nat → Prop} (n x : Int) (ao : Option Addr) (c : Nat) (E : List Ed) (w : World) (hr : ERow A w ao c E) (hlen : E.length ≤ 1024) :
    Calls Try.prog 50 #[.agg #[.int .i64 n, .int .i64 x, .slice ao E.length c]] w fun e w' => ∃ bo bc, e = .returned (.agg #[.int .i64 n, .int .i64 x, .slice bo E.length bc]) ∧ EOwn w.heap.size w' (.slice bo E.length bc) (E.map turn) ∧ Below w.heap.size w w' := by
  have hat : ∀ j, j < E.length → ∃ b o, ao = some ⟨b, o, none⟩ ∧ b < w.heap.size ∧ EdAt w b (o + j * 21) (edD E j) := fun j hj => by
    obtain ⟨b, o, e, -, h1, h2, -⟩ := hr.get j hj
    exact ⟨b, o, e, h1, h2⟩
  have HAT := Lib.hid hat
  have hz0 : (((w.alloc (Obj.cells #[.int .i64 n, .int .i64 x, .slice ao E.length c] 24)).alloc (Obj.cells #[.int .i64 0, .int .i64 0, nilS] 24)).alloc (Obj.cells #[.int .i64 n, .int .i64 x, nilS] 24)).heap.size = w.heap.size + 1 + 1 + 1 := by simp
  have b0 : Below w.heap.size w (((w.alloc (Obj.cells #[.int .i64 n, .int .i64 x, .slice ao E.length c] 24)).alloc (Obj.cells #[.int .i64 0, .int .i64 0, nilS] 24)).alloc (Obj.cells #[.int .i64 n, .int .i64 x, nilS] 24)) := (((Below.refl _ _).alloc (Nat.le_refl _) _).alloc (by simp) _).alloc (by simp; omega) _
  have m0 : (((w.alloc (Obj.cells #[.int .i64 n, .int .i64 x, .slice ao E.length c] 24)).alloc (Obj.cells #[.int .i64 0, .int .i64 0, nilS] 24)).alloc (Obj.cells #[.int .i64 n, .int .i64 x, nilS] 24)).cell? ⟨w.heap.size, 0, none⟩ = some (.int .i64 n) := by go_cell
  have m1 : (((w.alloc (Obj.cells #[.int .i64 n, .int .i64 x, .slice ao E.length c] 24)).alloc (Obj.cells #[.int .i64 0, .int .i64 0, nilS] 24)).alloc (Obj.cells #[.int .i64 n, .int .i64 x, nilS] 24)).cell? ⟨w.heap.size, 1, none⟩ = some (.int .i64 x) := by go_cell
  have m2 : (((w.alloc (Obj.cells #[.int .i64 n, .int .i64 x, .slice ao E.length c] 24)).alloc (Obj.cells #[.int .i64 0, .int .i64 0, nilS] 24)).alloc (Obj.cells #[.int .i64 n, .int .i64 x, nilS] 24)).cell? ⟨w.heap.size, 2, none⟩ = some (.slice ao E.length c) := by go_cell
  have l0 : (((w.alloc (Obj.cells #[.int .i64 n, .int .i64 x, .slice ao E.length c] 24)).alloc (Obj.cells #[.int .i64 0, .int .i64 0, nilS] 24)).alloc (Obj.cells #[.int .i64 n, .int .i64 x, nilS] 24)).cell? ⟨w.heap.size + 1, 0, none⟩ = some (.int .i64 0) := by go_cell
  have l1 : (((w.alloc (Obj.cells #[.int .i64 n, .int .i64 x, .slice ao E.length c] 24)).alloc (Obj.cells #[.int .i64 0, .int .i64 0, nilS] 24)).alloc (Obj.cells #[.int .i64 n, .int .i64 x, nilS] 24)).cell? ⟨w.heap.size + 1, 1, none⟩ = some (.int .i64 0) := by go_cell
  have l2 : (((w.alloc (Obj.cells #[.int .i64 n, .int .i64 x, .slice ao E.length c] 24)).alloc (Obj.cells #[.int .i64 0, .int .i64 0, nilS] 24)).alloc (Obj.cells #[.int .i64 n, .int .i64 x, nilS] 24)).cell? ⟨w.heap.size + 1, 2, none⟩ = some nilS := by go_cell
  have k0 : (((w.alloc (Obj.cells #[.int .i64 n, .int .i64 x, .slice ao E.length c] 24)).alloc (Obj.cells #[.int .i64 0, .int .i64 0, nilS] 24)).alloc (Obj.cells #[.int .i64 n, .int .i64 x, nilS] 24)).cell? ⟨w.heap.size + 1 + 1, 0, none⟩ = some (.int .i64 n) := by go_cell
  have k1 : (((w.alloc (Obj.cells #[.int .i64 n, .int .i64 x, .slice ao E.length c] 24)).alloc (Obj.cells #[.int .i64 0, .int .i64 0, nilS] 24)).alloc (Obj.cells #[.int .i64 n, .int .i64 x, nilS] 24)).cell? ⟨w.heap.size + 1 + 1, 1, none⟩ = some (.int .i64 x) := by go_cell
  have k2 : (((w.alloc (Obj.cells #[.int .i64 n, .int .i64 x, .slice ao E.length c] 24)).alloc (Obj.cells #[.int .i64 0, .int .i64 0, nilS] 24)).alloc (Obj.cells #[.int .i64 n, .int .i64 x, nilS] 24)).cell? ⟨w.heap.size + 1 + 1, 2, none⟩ = some nilS := by go_cell
  have f0 : ∀ j, (((w.alloc (Obj.cells #[.int .i64 n, .int .i64 x, .slice ao E.length c] 24)).alloc (Obj.cells #[.int .i64 0, .int .i64 0, nilS] 24)).alloc (Obj.cells #[.int .i64 n, .int .i64 x, nilS] 24)).frozen? ⟨w.heap.size + 1 + 1, j, none⟩ = false := fun j => by
    rw [show w.heap.size + 1 + 1 = ((w.alloc (Obj.cells #[.int .i64 n, .int .i64 x, .slice ao E.length c] 24)).alloc (Obj.cells #[.int .i64 0, .int .i64 0, nilS] 24)).heap.size by simp]
    exact frozen_of_row _ _ j _ _ (heap_alloc_last _ _)
  have f1 : ∀ j, (((w.alloc (Obj.cells #[.int .i64 n, .int .i64 x, .slice ao E.length c] 24)).alloc (Obj.cells #[.int .i64 0, .int .i64 0, nilS] 24)).alloc (Obj.cells #[.int .i64 n, .int .i64 x, nilS] 24)).frozen? ⟨w.heap.size + 1, j, none⟩ = false := fun j => ((Below.refl _ _).alloc (by simp) _).frozen (p := ⟨w.heap.size + 1, j, none⟩) (B := w.heap.size + 1 + 1) (by dsimp only; omega) |>.trans (by
    rw [show w.heap.size + 1 = (w.alloc (Obj.cells #[.int .i64 n, .int .i64 x, .slice ao E.length c] 24)).heap.size by simp]
    exact frozen_of_row _ _ j _ _ (heap_alloc_last _ _))
  have c0 : (w.alloc (Obj.cells #[.int .i64 n, .int .i64 x, .slice ao E.length c] 24)).cell? ⟨w.heap.size, 0, none⟩ = some (.int .i64 n) := by go_cell
  have B0 := Lib.hid b0; have L0 := Lib.hid l0; have L1 := Lib.hid l1; have L2 := Lib.hid l2; have F0 := Lib.hid f0; have F1 := Lib.hid f1; have K0 := Lib.hid k0; have K1 := Lib.hid k1; have K2 := Lib.hid k2; have HZ0 := Lib.hid hz0; have M0 := Lib.hid m0; have M1 := Lib.hid m1; have M2 := Lib.hid m2
  clear b0 k0 k1 k2 l0 l1 l2 f0 f1 hz0 m0 m1 m2 c0 hat hr
  go_enter Try.func50, Try.ntmps50
  go_wp2_with fail
  generalize (((w.alloc (Obj.cells #[.int .i64 n, .int .i64 x, .slice ao E.length c] 24)).alloc (Obj.cells #[.int .i64 0, .int .i64 0, nilS] 24)).alloc (Obj.cells #[.int .i64 n, .int .i64 x, nilS] 24)) = W0 at *
  go_loopw [4] (fun iv wr => ∃ (k : Nat) (v : Value), k ≤ E.length ∧ iv = .int .i64 (k : Int) ∧ EOwn (w.heap.size + 1 + 1 + 1) wr v ((E.take k).map turn) ∧ wr.cell? ⟨w.heap.size + 1 + 1, 2, none⟩ = some v ∧ wr.cell? ⟨w.heap.size + 1 + 1, 0, none⟩ = some (.int .i64 n) ∧ wr.cell? ⟨w.heap.size + 1 + 1, 1, none⟩ = some (.int .i64 x) ∧ (∀ j, wr.frozen? ⟨w.heap.size + 1 + 1, j, none⟩ = false) ∧ But (fun b => b = w.heap.size + 1 + 1) W0 wr) (fun iv _ => E.length - (intOf iv).toNat)
  case atStart => exact ⟨0, _, Nat.zero_le _, rfl, EOwn.nil, K2.out, K0.out, K1.out, F0.out, But.refl _ _⟩
  case round =>
    obtain ⟨k, v, hk, rfl, hown, y2, y0, y1, yf, hB⟩ := hrel
    obtain ⟨vo, vc, rfl⟩ := hown.slice
    have hlk : ((E.take k).map turn).length = k := by rw [List.length_map, List.length_take]; omega
    rw [hlk] at hown y2
    have hwz : w.heap.size + 1 + 1 + 1 ≤ wr.heap.size := by have := hB.size; have := HZ0.out; omega
    have g2 := (hB.cell (p := ⟨w.heap.size, 2, none⟩) (by have := HZ0.out; dsimp only; omega) (by dsimp only; omega)).trans M2.out
    by_cases hlt : k < E.length
    · obtain ⟨b, o, rfl, hbl, he⟩ := HAT.out k hlt
      have hbw : ∀ q : Addr, q.block = b → wr.cell? q = w.cell? q := fun q hq => (hB.cell (by have := HZ0.out; omega) (fun e => by omega)).trans (B0.out.cell (by omega))
      have x0 := (hbw ⟨b, o + k * 21, none⟩ rfl).trans (he 0 _ rfl)
      have x1 := (hbw ⟨b, o + k * 21 + 1, none⟩ rfl).trans (he 1 _ rfl)
      have HOWN := Lib.hid hown; have HB := Lib.hid hB; have HLK := Lib.hid hlk; have X0 := Lib.hid x0; have X1 := Lib.hid x1; have Y2 := Lib.hid y2; have YF := Lib.hid yf; have G2 := Lib.hid g2; have HY := Lib.hid (And.intro y0 y1); have HBL := Lib.hid hbl; have HWZ := Lib.hid hwz; have HLT := Lib.hid hlt
      have j1 : (k : Int) < (E.length : Int) := by omega
      clear hown hB hlk hbw x0 x1 y2 yf he y0 y1 hbl hwz hlt
      go_wp2_with fail
      refine tu_region (w.heap.size + 1 + 1 + 1) (w.heap.size + 1 + 1) w.heap.size b o E.length c k (edD E k).t (edD E k).f (.slice vo k vc) ((E.take k).map turn) _ _ _ _ _ _ _ _ _ _ _ _ _ _ _ _ _ _ _ _ _ _ _ _ _ _ _ _ _ _ _ _ _ _ (by rw [HLK.out]; omega) HLT.out hlen (by have := HWZ.out; omega) (by have := HWZ.out; omega) (fun b' e => by have := (HOWN.out.lt e).1; have := HBL.out; omega) G2.out (by have := HWZ.out; have := HBL.out; omega) X0.out X1.out Y2.out (YF.out 2) HOWN.out HWZ.out ?_
      intro u17 u18 u19 u20 u21 u22 u23 u24 u25 u26 u27 u28 u29 u30 u31 u32 u33 u34 w5 hq h0 h1 h2 h3 h4 h5 h6 h7 h8 h9 h10 h11 h12 h13 h14 h17
      obtain ⟨e1, e2, ⟨g9, n9, cap, rfl, hg9⟩, w6, b6, rfl⟩ := hq
      clear h0 h1 h2 h3 h4 h5 h6 h7 h8 h9 h10 h11 h12 h13 h14 h17
      have hno : ¬ (Value.slice vo k vc).ownBlock = some (w.heap.size + 1 + 1) := fun e => by have := (HOWN.out.lt e).1; omega
      have d0 := (b6.cell (p := ⟨w.heap.size + 1 + 1, 0, none⟩) (by have := HWZ.out; dsimp only; omega) hno).trans HY.out.1
      have d1 := (b6.cell (p := ⟨w.heap.size + 1 + 1, 1, none⟩) (by have := HWZ.out; dsimp only; omega) hno).trans HY.out.2
      have df := fun j => (b6.frozen (p := ⟨w.heap.size + 1 + 1, j, none⟩) (by have := HWZ.out; dsimp only; omega) hno).trans (YF.out j)
      have hb6 := HB.out.trans b6 (fun k' hk' e => by have := (HOWN.out.lt e).1; have := HZ0.out; omega)
      have E1 := Lib.hid e1; have E2 := Lib.hid e2; have D0 := Lib.hid d0; have D1 := Lib.hid d1; have DF := Lib.hid df; have HB6 := Lib.hid hb6
      clear e1 e2 d0 d1 df hb6 b6 hno
      unfold tuAct
      go_wp2_with fail
      go_roundw
      case rel =>
        refine ⟨k + 1, _, HLT.out, by go_num, ?_, E2.out, ?_, ?_, fun j => ?_, HB6.out.set _ _ (fun _ => rfl)⟩
        · rw [edD_take HLT.out, List.map_append, List.map_cons, List.map_nil]; exact E1.out
        · rw [World.cell?_setCell_other (h := by intro q; cases q)]; exact D0.out
        · rw [World.cell?_setCell_other (h := by intro q; cases q)]; exact D1.out
        · rw [World.frozen?_setCell]; exact DF.out j
      case measure => have := HLT.out; simp [intOf]; omega
    · have hkm : k = E.length := by omega
      subst hkm
      rw [List.take_length] at hown
      have q0 := (hB.cell (p := ⟨w.heap.size + 1, 0, none⟩) (by have := HZ0.out; dsimp only; omega) (by dsimp only; omega)).trans L0.out
      have q1 := (hB.cell (p := ⟨w.heap.size + 1, 1, none⟩) (by have := HZ0.out; dsimp only; omega) (by dsimp only; omega)).trans L1.out
      have q2 := (hB.cell (p := ⟨w.heap.size + 1, 2, none⟩) (by have := HZ0.out; dsimp only; omega) (by dsimp only; omega)).trans L2.out
      have q3 := fun j => (hB.frozen (p := ⟨w.heap.size + 1, j, none⟩) (by have := HZ0.out; dsimp only; omega) (by dsimp only; omega)).trans (F1.out j)
      have HOWN := Lib.hid hown; have HB := Lib.hid hB
      clear hown hB hlk
      go_wp2_with fail
      have hbf : But (fun b => b = w.heap.size + 1 ∨ b = w.heap.size + 1 + 1) W0 (((wr.setCell ⟨w.heap.size + 1, 0, none⟩ (.int .i64 n)).setCell ⟨w.heap.size + 1, 1, none⟩ (.int .i64 x)).setCell ⟨w.heap.size + 1, 2, none⟩ (.slice vo E.length vc)) :=
        (((HB.out.mono (fun _ _ e => .inr e)).set ⟨w.heap.size + 1, 0, none⟩ (.int .i64 n) (fun _ => .inl rfl)).set ⟨w.heap.size + 1, 1, none⟩ (.int .i64 x) (fun _ => .inl rfl)).set ⟨w.heap.size + 1, 2, none⟩ (.slice vo E.length vc) (fun _ => .inl rfl)
      have hbw : But (fun b => b = w.heap.size + 1) wr (((wr.setCell ⟨w.heap.size + 1, 0, none⟩ (.int .i64 n)).setCell ⟨w.heap.size + 1, 1, none⟩ (.int .i64 x)).setCell ⟨w.heap.size + 1, 2, none⟩ (.slice vo E.length vc)) :=
        (((But.refl (fun b => b = w.heap.size + 1) wr).set ⟨w.heap.size + 1, 0, none⟩ (.int .i64 n) (fun _ => rfl)).set ⟨w.heap.size + 1, 1, none⟩ (.int .i64 x) (fun _ => rfl)).set ⟨w.heap.size + 1, 2, none⟩ (.slice vo E.length vc) (fun _ => rfl)
      have r0 := cellSet q0 (.int .i64 n)
      have r1' : (wr.setCell ⟨w.heap.size + 1, 0, none⟩ (.int .i64 n)).cell? ⟨w.heap.size + 1, 1, none⟩ = some (.int .i64 0) := by rw [World.cell?_setCell_other (h := by intro q; cases q)]; exact q1
      have r1 := cellSet r1' (.int .i64 x)
      have r2' : ((wr.setCell ⟨w.heap.size + 1, 0, none⟩ (.int .i64 n)).setCell ⟨w.heap.size + 1, 1, none⟩ (.int .i64 x)).cell? ⟨w.heap.size + 1, 2, none⟩ = some nilS := by rw [World.cell?_setCell_other (h := by intro q; cases q), World.cell?_setCell_other (h := by intro q; cases q)]; exact q2
      have r2 := cellSet r2' (.slice vo E.length vc)
      have t0 : (((wr.setCell ⟨w.heap.size + 1, 0, none⟩ (.int .i64 n)).setCell ⟨w.heap.size + 1, 1, none⟩ (.int .i64 x)).setCell ⟨w.heap.size + 1, 2, none⟩ (.slice vo E.length vc)).cell? ⟨w.heap.size + 1, 0, none⟩ = some (.int .i64 n) := by rw [World.cell?_setCell_other (h := by intro q; cases q), World.cell?_setCell_other (h := by intro q; cases q)]; exact r0
      have t1 : (((wr.setCell ⟨w.heap.size + 1, 0, none⟩ (.int .i64 n)).setCell ⟨w.heap.size + 1, 1, none⟩ (.int .i64 x)).setCell ⟨w.heap.size + 1, 2, none⟩ (.slice vo E.length vc)).cell? ⟨w.heap.size + 1, 1, none⟩ = some (.int .i64 x) := by rw [World.cell?_setCell_other (h := by intro q; cases q)]; exact r1
      clear r0 r1' r1 r2' q0 q1 q2 q3 y0 y1 y2 yf
      generalize (((wr.setCell ⟨w.heap.size + 1, 0, none⟩ (.int .i64 n)).setCell ⟨w.heap.size + 1, 1, none⟩ (.int .i64 x)).setCell ⟨w.heap.size + 1, 2, none⟩ (.slice vo E.length vc)) = W9 at *
      refine bodyPost_ret (by simp [results, Try.results50, go_sem, t0, t1, r2]; first | done | rfl) rfl ?_
      refine ⟨vo, vc, rfl, ?_, B0.out.trans ⟨hbf.os, hbf.tape, hbf.output, hbf.size, fun j hj => hbf.block j (by have := HZ0.out; omega) (by omega)⟩⟩
      exact World.ownsRow.mono ((HOWN.out).but hbw (fun b e q => by have := (HOWN.out.lt e).1; omega)) (by omega)
theorem edD_turn {E : List Ed} {i : Nat} (h : i < E.length) : edD (E.map turn) i = turn (edD E i) := by
  rw [edD_eq (by simpa using h), edD_eq h, List.getElem_map]
theorem lvN_turn (P : Nat) (E : List Ed) : lvN P (fun d => d.f) (E.map turn) (E.map turn).length = lvN P (fun d => d.t) E E.length := by
  unfold lvN
  rw [List.length_map]
  apply List.map_congr_left
  intro p _
  congr 1
  apply List.filter_congr
  intro i hi
  rw [edD_turn (List.mem_range.1 hi)]
  rfl
/-- What the reference's In answers. -/
def RInQ (n x : Int) (E : List Ed) (w : World) : Ending → World → Prop := fun e w' => Below w.heap.size w w' ∧
  ((ckG n x E ≠ 0 ∧ e = .returned (.tuple #[nilS, .int .i64 (ckG n x E : Nat)])) ∨
   (ckG n x E = 0 ∧ ∃ LB lo vs, e = .returned (.tuple #[.slice (some ⟨LB, 0, none⟩) n.toNat n.toNat, .int .i64 0]) ∧ w.heap.size ≤ LB ∧ LvAt lo w' LB n.toNat vs (lvN n.toNat (fun d => d.t) E E.length)))
set_option maxRecDepth 20000 in
set_option maxHeartbeats 4000000 in
theorem refIn_any {A : Nat → Prop} (n x : Int) (ao : Option Addr) (c : Nat) (E : List Ed) (w : World) (hr : ERow A w ao c E) :
    Calls Try.prog 18 #[.agg #[.int .i64 n, .int .i64 x, .slice ao E.length c]] w (RInQ n x E w) := by
  have hA : Below w.heap.size w (w.alloc (Obj.cells #[.int .i64 n, .int .i64 x, .slice ao E.length c] 24)) := (Below.refl _ _).alloc (Nat.le_refl _) _
  have hX := GBx.new w n x ao E.length c
  have CC := fun W hW => refCheck_any n x ao c E W (hr.keep (B := A) (But.of_below (S := fun _ => False) (w' := W) hW) (fun _ h _ => ⟨id, h⟩))
  have KA' := Lib.hid hA; have HX := Lib.hid hX; have KC := Lib.hid CC; have HR := Lib.hid hr
  clear hA hX CC hr
  by_cases h0 : ckG n x E = 0
  rotate_left
  · obtain ⟨K, hK⟩ : ∃ K, ckG n x E = K := ⟨_, rfl⟩
    have HK := Lib.hid hK
    rw [hK] at h0
    have t1 : ((K : Int) != 0) = true := by rw [bne_iff_ne]; omega
    have H0 := Lib.hid h0
    clear h0 hK
    have k1 := KC.out _ KA'.out
    rw [HK.out] at k1
    have K1 := Lib.hid k1; clear k1 KC
    go_enter Try.func18, Try.ntmps18
    go_wp2_with (go_at_call 22; refine (K1.out).mono ?_; rintro e w1 ⟨rfl, hb⟩; refine Hid.out ?_)
    have HB := Lib.hid (Below.chain KA'.out hb); clear hb
    refine Lib.hid ?_
    go_wp2
    refine bodyPost_ret (by first | (simp [results, Try.results18, go_sem]; done) | (simp [results, Try.results18, go_sem]; rfl)) rfl ?_
    exact ⟨HB.out, .inl ⟨by rw [HK.out]; exact H0.out, by rw [HK.out]⟩⟩
  · have k1 := KC.out _ KA'.out
    rw [h0] at k1
    have K1 := Lib.hid k1; clear k1
    obtain ⟨hn1, hn2, -⟩ := ckG_pos h0
    obtain ⟨P, rfl⟩ := Int.eq_ofNat_of_zero_le (show 0 ≤ n by omega)
    obtain ⟨-, hn3, hlen, hpts⟩ := ckG_ok h0
    have H0 := Lib.hid h0
    have k2 := fun W hW => turned_any (P : Int) x ao c E W (HR.out.keep (B := A) (But.of_below (S := fun _ => False) (w' := W) hW) (fun _ h _ => ⟨id, h⟩)) hlen
    have K2 := Lib.hid k2; have HPT := Lib.hid hpts; have HLEN := Lib.hid hlen
    clear KC k2 h0 hpts
    go_enter Try.func18, Try.ntmps18
    go_wp2_with (go_at_call 22; refine (K1.out).mono ?_; rintro e w1 ⟨rfl, hb⟩; refine Hid.out ?_)
    have HB := Lib.hid (Below.chain KA'.out hb)
    obtain ⟨y0, y1, y2, y3⟩ := HX.out.below hb
    clear hb
    refine Lib.hid ?_
    go_wp2_with (first | (go_at_call 50; refine (K2.out _ HB.out).mono ?_; rintro e w2 ⟨bo, bc, rfl, ho, hb⟩; refine Hid.out ?_) | fail)
    have HB2 := Lib.hid (Below.chain HB.out hb)
    have k3 := leaving_any P x bo bc (E.map turn) w2 ho.row hn3 (by rw [List.length_map]; exact HLEN.out) (fun j hj => by
      rw [List.length_map] at hj
      rw [edD_turn hj]; exact (HPT.out j hj).2)
    rw [lvN_turn, List.length_map] at k3
    have K3 := Lib.hid k3
    clear hb ho y0 y1 y2 y3 k3
    refine Lib.hid ?_
    go_wp2_with (first | (go_at_call 48; refine (K3.out).mono ?_; rintro e w3 ⟨rfl, ⟨vs, hlv⟩, hb⟩; refine Hid.out ?_) | fail)
    have HB3 := Lib.hid (Below.chain HB2.out hb)
    have HV := Lib.hid hlv; have HZ := Lib.hid HB2.out.size
    clear hb hlv
    refine Lib.hid ?_
    go_wp2
    refine bodyPost_ret (by first | (simp [results, Try.results18, go_sem]; done) | (simp [results, Try.results18, go_sem]; rfl)) rfl ?_
    exact ⟨HB3.out, .inr ⟨H0.out, _, _, vs, rfl, by have := HZ.out; omega, HV.out⟩⟩
end Go.Proofs.Ytjjkabgbcflipaa
namespace Go.Proofs.Ytjjkabgbcflipaa
open Go Go.Proofs Go.RowKit Go.Shelf GM

attribute [local go_sem] Oper.semAt_some

set_option maxRecDepth 20000 in
set_option maxHeartbeats 600000 in
theorem eqB_any (p1 p2 : Option Addr) (n c d : Nat) (f : Nat → Bool) (W : World) (hn : n ≤ 100000)
    (h : n = 0 ∨ ∃ a b, p1 = some ⟨a, 0, none⟩ ∧ p2 = some ⟨b, 0, none⟩ ∧ ∀ k, k < n → W.cell? ⟨a, k, none⟩ = some (.bool (f k)) ∧ W.cell? ⟨b, k, none⟩ = some (.bool (f k))) :
    Calls Try.prog 24 #[.slice p1 n c, .slice p2 n d] W fun e w' => e = .returned (.bool true) ∧ Below W.heap.size W w' := by
  have H := Lib.hid h
  clear h
  go_enter Try.func24, Try.ntmps24
  go_wp2_with fail
  go_loopw [13] (fun iv wr => ∃ k : Nat, k ≤ n ∧ iv = .int .i64 (k : Int) ∧ Below W.heap.size W wr ∧ ∀ q, wr.cell? q = W.cell? q) (fun iv _ => n - (intOf iv).toNat)
  case atStart => exact ⟨0, Nat.zero_le _, rfl, Below.refl _ _, fun _ => rfl⟩
  case round =>
    obtain ⟨k, hk, rfl, hb, hc⟩ := hrel
    by_cases hlt : k < n
    · rcases H.out with h | ⟨a, b, rfl, rfl, h⟩
      · omega
      · obtain ⟨h1, h2⟩ := h k hlt
        have y1 := (hc _).trans h1
        have y2 := (hc _).trans h2
        have HB := Lib.hid hb; have HC := Lib.hid hc
        have p2 : (0 : Int) ≤ (k : Int) := by omega
        have p3 : (k : Int) < (n : Int) := by omega
        clear h1 h2 hb hc h
        generalize f k = fk at *
        cases fk with
        | true =>
          go_wp2_with fail
          first | go_quiet (fail) | go_region
          go_wp2_with fail
          go_roundw
          case rel => exact ⟨k + 1, hlt, by go_num, below_drewN HB.out _, fun q => by rw [World.cell?_drewN]; exact HC.out q⟩
          case measure => simp [intOf]; omega
        | false =>
          go_wp2_with fail
          first | go_quiet (fail) | go_region
          go_wp2_with fail
          go_roundw
          case rel => exact ⟨k + 1, hlt, by go_num, below_drewN HB.out _, fun q => by rw [World.cell?_drewN]; exact HC.out q⟩
          case measure => simp [intOf]; omega
    · have hkn : k = n := by omega
      subst hkn
      have HB := Lib.hid hb
      clear hb hc
      go_wp2_with fail
      refine bodyPost_ret (by first | (simp [results, Try.results24, go_sem]; done) | (simp [results, Try.results24, go_sem]; rfl)) rfl ?_
      exact ⟨rfl, HB.out⟩
end Go.Proofs.Ytjjkabgbcflipaa
namespace Go.Proofs.Ytjjkabgbcflipaa
open Go Go.Proofs Go.RowKit Go.Shelf Go.Sort GM

attribute [local go_sem] Oper.semAt_some

theorem TBx.below {A : Nat → Prop} {W W' : World} {v : Value} {ls : List (List Nat)} (h : TBx A W v ls) (hb : Below W.heap.size W W') : TBx A W' v ls := by
  obtain ⟨ao, c, e, h⟩ := h
  refine ⟨ao, c, e, fun p hp => ?_⟩
  obtain ⟨b, rv, e1, h1, h2, h3⟩ := h p hp
  exact ⟨b, rv, e1, Nat.lt_of_lt_of_le h1 hb.size, (hb.cell (p := ⟨b, p, none⟩) h1).trans h2, h3.keep (KA.of_below hb) (fun _ h _ => h)⟩
theorem TBx.any {A : Nat → Prop} {W : World} {v : Value} {ls : List (List Nat)} (h : TBx A W v ls) : TBx (fun _ => True) W v ls := by
  obtain ⟨ao, c, e, h⟩ := h
  refine ⟨ao, c, e, fun p hp => ?_⟩
  obtain ⟨b, rv, e1, h1, h2, h3⟩ := h p hp
  exact ⟨b, rv, e1, h1, h2, h3.keep (KA.refl _ _) (fun _ _ _ => trivial)⟩
theorem TBx.nil (A : Nat → Prop) (W : World) : TBx A W nilS [] := ⟨none, 0, rfl, fun p hp => by simp at hp⟩
/-- A row of Bools that can be read. -/
def BRow (W : World) (p : Option Addr) (m : Nat) (f : Nat → Bool) : Prop := m = 0 ∨ ∃ a, p = some ⟨a, 0, none⟩ ∧ a < W.heap.size ∧ ∀ k, k < m → W.cell? ⟨a, k, none⟩ = some (.bool (f k))
theorem BRow.below {W W' : World} {p : Option Addr} {m : Nat} {f : Nat → Bool} (h : BRow W p m f) (hb : Below W.heap.size W W') : BRow W' p m f := by
  refine h.imp_right ?_
  rintro ⟨a, e, h1, h2⟩
  exact ⟨a, e, Nat.lt_of_lt_of_le h1 hb.size, fun k hk => (hb.cell (p := ⟨a, k, none⟩) h1).trans (h2 k hk)⟩
theorem BRow.both {W : World} {p q : Option Addr} {m : Nat} {f : Nat → Bool} (h : BRow W p m f) (g : BRow W q m f) : m = 0 ∨ ∃ a b, p = some ⟨a, 0, none⟩ ∧ q = some ⟨b, 0, none⟩ ∧ ∀ k, k < m → W.cell? ⟨a, k, none⟩ = some (.bool (f k)) ∧ W.cell? ⟨b, k, none⟩ = some (.bool (f k)) := by
  rcases h with h | ⟨a, e1, -, h1⟩
  · exact .inl h
  · rcases g with g | ⟨b, e2, -, h2⟩
    · exact .inl g
    · exact .inr ⟨a, b, e1, e2, fun k hk => ⟨h1 k hk, h2 k hk⟩⟩
def tabL (fr : Ed → Int) (n x : Int) (E : List Ed) : List (List Nat) := if ckG n x E = 0 then lsN n.toNat fr E else []
theorem tabL_len (fr : Ed → Int) (n x : Int) (E : List Ed) : (tabL fr n x E).length ≤ 100000 := by
  unfold tabL
  split
  · rename_i h
    obtain ⟨h1, h2, -⟩ := ckG_pos h
    simp [lsN]; omega
  · simp
theorem tabL_row (fr : Ed → Int) (n x : Int) (E : List Ed) (p : Nat) : (rowD (tabL fr n x E) p).length ≤ 100000 := by
  unfold tabL
  split
  · rename_i h
    obtain ⟨h1, h2, -⟩ := ckG_pos h
    obtain ⟨P, rfl⟩ := Int.eq_ofNat_of_zero_le (show 0 ≤ n by omega)
    obtain ⟨-, -, hl, -⟩ := ckG_ok h
    exact Nat.le_trans (lsN_len _ _ _ _) (by omega)
  · simp [rowD]
def rchE (n x : Int) (E : List Ed) (from_ : Int) : Nat := if ckG n x E = 0 then (if isPt n from_ then 0 else 6) else ckG n x E
def rchN (n x : Int) (E : List Ed) (from_ : Int) : Nat := if ckG n x E = 0 ∧ isPt n from_ = true then n.toNat else 0
theorem rchN_le (n x : Int) (E : List Ed) (from_ : Int) : rchN n x E from_ ≤ 100000 := by
  unfold rchN
  split
  · rename_i h
    obtain ⟨h1, h2, -⟩ := ckG_pos h.1
    omega
  · omega
noncomputable def rchB (n : Int) (E : List Ed) (from_ : Int) (q : Nat) : Bool := by
  classical
  exact decide (Rch (nxF n.toNat E) (fun _ => False) from_.toNat q)
theorem rchB_iff (n : Int) (E : List Ed) (from_ : Int) (q : Nat) : rchB n E from_ q = true ↔ Rch (nxF n.toNat E) (fun _ => False) from_.toNat q := by
  unfold rchB; simp
section
variable {A : Nat → Prop} (n x : Int) (ao : Option Addr) (c : Nat) (E : List Ed) (w : World) (hr : ERow A w ao c E)
include hr
theorem out_u : Calls Try.prog 15 #[.agg #[.int .i64 n, .int .i64 x, .slice ao E.length c]] w fun e w' => Below w.heap.size w w' ∧ ∃ v, e = .returned (.tuple #[v, .int .i64 (ckG n x E : Nat)]) ∧ TBx (fun _ => True) w' v (tabL (fun d => d.f) n x E) := by
  refine (Out_any n x ao c E w hr).mono ?_
  rintro e w' ⟨hb, ⟨h, rfl⟩ | ⟨h, v, rfl, ht⟩⟩
  · exact ⟨hb, _, rfl, by unfold tabL; rw [if_neg h]; exact TBx.nil _ _⟩
  · refine ⟨hb, _, by rw [h]; rfl, ?_⟩
    unfold tabL; rw [if_pos h]
    exact (TB.read ht (by simp [lsN])).any
theorem in_u : Calls Try.prog 17 #[.agg #[.int .i64 n, .int .i64 x, .slice ao E.length c]] w fun e w' => Below w.heap.size w w' ∧ ∃ v, e = .returned (.tuple #[v, .int .i64 (ckG n x E : Nat)]) ∧ TBx (fun _ => True) w' v (tabL (fun d => d.t) n x E) := by
  refine (In_any n x ao c E w hr).mono ?_
  rintro e w' ⟨hb, ⟨h, rfl⟩ | ⟨h, v, rfl, ht⟩⟩
  · exact ⟨hb, _, rfl, by unfold tabL; rw [if_neg h]; exact TBx.nil _ _⟩
  · refine ⟨hb, _, by rw [h]; rfl, ?_⟩
    unfold tabL; rw [if_pos h]
    exact (TB.read ht (by simp [lsN])).any
theorem rout_u : Calls Try.prog 16 #[.agg #[.int .i64 n, .int .i64 x, .slice ao E.length c]] w fun e w' => Below w.heap.size w w' ∧ ∃ v, e = .returned (.tuple #[v, .int .i64 (ckG n x E : Nat)]) ∧ TBx (fun _ => True) w' v (tabL (fun d => d.f) n x E) := by
  refine (refOut_any n x ao c E w hr).mono ?_
  rintro e w' ⟨hb, ⟨h, rfl⟩ | ⟨h, LB, lo, vs, rfl, -, ht⟩⟩
  · exact ⟨hb, _, rfl, by unfold tabL; rw [if_neg h]; exact TBx.nil _ _⟩
  · refine ⟨hb, _, by rw [h]; rfl, ?_⟩
    unfold tabL; rw [if_pos h]
    exact (LvAt.read ht).any
theorem rin_u : Calls Try.prog 18 #[.agg #[.int .i64 n, .int .i64 x, .slice ao E.length c]] w fun e w' => Below w.heap.size w w' ∧ ∃ v, e = .returned (.tuple #[v, .int .i64 (ckG n x E : Nat)]) ∧ TBx (fun _ => True) w' v (tabL (fun d => d.t) n x E) := by
  refine (refIn_any n x ao c E w hr).mono ?_
  rintro e w' ⟨hb, ⟨h, rfl⟩ | ⟨h, LB, lo, vs, rfl, -, ht⟩⟩
  · exact ⟨hb, _, rfl, by unfold tabL; rw [if_neg h]; exact TBx.nil _ _⟩
  · refine ⟨hb, _, by rw [h]; rfl, ?_⟩
    unfold tabL; rw [if_pos h]
    exact (LvAt.read ht).any
theorem reach_u (from_ : Int) : Calls Try.prog 19 #[.agg #[.int .i64 n, .int .i64 x, .slice ao E.length c], .int .i64 from_] w fun e w' => Below w.heap.size w w' ∧ ∃ p k, e = .returned (.tuple #[.slice p (rchN n x E from_) k, .int .i64 (rchE n x E from_ : Nat)]) ∧ BRow w' p (rchN n x E from_) (rchB n E from_) := by
  refine (reach_any n x ao c E w hr from_).mono ?_
  rintro e w' ⟨hb, ⟨h, rfl⟩ | ⟨h, hf, rfl⟩ | ⟨h, hf, M, t, rfl, hv, hm, -⟩⟩
  · exact ⟨hb, none, 0, by unfold rchN rchE; rw [if_neg (fun q => h q.1), if_neg h], .inl (by unfold rchN; rw [if_neg (fun q => h q.1)])⟩
  · exact ⟨hb, none, 0, by unfold rchN rchE; rw [if_neg (fun q => by rw [hf] at q; cases q.2), if_pos h, hf]; rfl, .inl (by unfold rchN; rw [if_neg (fun q => by rw [hf] at q; cases q.2)])⟩
  · refine ⟨hb, some ⟨M, 0, none⟩, n.toNat, by unfold rchN rchE; rw [if_pos ⟨h, hf⟩, if_pos h, hf]; rfl, .inr ⟨M, rfl, hm.lt, fun k hk => ?_⟩⟩
    unfold rchN at hk
    rw [if_pos ⟨h, hf⟩] at hk
    rw [hm.mc k hk]
    congr 2
    rw [Bool.eq_iff_iff, rchB_iff, unionB_iff]
    constructor
    · rintro (q | q)
      · cases q
      · obtain ⟨p, hp, g⟩ := (hv.mem k).1 q
        rw [List.mem_singleton] at hp
        rw [← hp]; exact g
    · intro g
      exact .inr ((hv.mem k).2 ⟨_, List.mem_singleton.2 rfl, g⟩)
theorem rreach_u (from_ : Int) : Calls Try.prog 20 #[.agg #[.int .i64 n, .int .i64 x, .slice ao E.length c], .int .i64 from_] w fun e w' => Below w.heap.size w w' ∧ ∃ p k, e = .returned (.tuple #[.slice p (rchN n x E from_) k, .int .i64 (rchE n x E from_ : Nat)]) ∧ BRow w' p (rchN n x E from_) (rchB n E from_) := by
  refine (refReach_any n x ao c E w hr from_).mono ?_
  rintro e w' ⟨hb, ⟨h, rfl⟩ | ⟨h, hf, rfl⟩ | ⟨h, hf, M, mk, rfl, -, hm, hv⟩⟩
  · exact ⟨hb, none, 0, by unfold rchN rchE; rw [if_neg (fun q => h q.1), if_neg h], .inl (by unfold rchN; rw [if_neg (fun q => h q.1)])⟩
  · exact ⟨hb, none, 0, by unfold rchN rchE; rw [if_neg (fun q => by rw [hf] at q; cases q.2), if_pos h, hf]; rfl, .inl (by unfold rchN; rw [if_neg (fun q => by rw [hf] at q; cases q.2)])⟩
  · refine ⟨hb, some ⟨M, 0, none⟩, n.toNat, by unfold rchN rchE; rw [if_pos ⟨h, hf⟩, if_pos h, hf]; rfl, .inr ⟨M, rfl, hm.lt, fun k hk => ?_⟩⟩
    unfold rchN at hk
    rw [if_pos ⟨h, hf⟩] at hk
    rw [hm.mc k hk]
    congr 2
    rw [Bool.eq_iff_iff, rchB_iff, hv k hk]
    exact ⟨fun g => g.mono (fun _ q => q.elim), fun g => g.mono (fun y q => by omega)⟩
end
set_option maxRecDepth 100000 in
set_option maxHeartbeats 1000000 in
theorem graphChecks_walk {A : Nat → Prop} (n x : Int) (ao : Option Addr) (c : Nat) (E : List Ed) (from_ : Int) (w : World) (hr : ERow A w ao c E) :
    Calls Try.prog 3 #[.agg #[.int .i64 n, .int .i64 x, .slice ao E.length c], .int .i64 from_] w fun e w' => e = .returned (.bool true) ∧ Below w.heap.size w w' := by
  have hA : Below w.heap.size w (w.alloc (Obj.cells #[.int .i64 n, .int .i64 x, .slice ao E.length c] 24)) := (Below.refl _ _).alloc (Nat.le_refl _) _
  have hX := GBx.new w n x ao E.length c
  have HB := Lib.hid hA; have HX := Lib.hid hX
  have hR := fun W (hW : Below w.heap.size w W) => hr.keep (B := A) (But.of_below (S := fun _ => False) (w' := W) hW) (fun _ h _ => ⟨id, h⟩)
  have HR := Lib.hid hR
  have KF := Lib.hid (few_any n x ao c E (w.alloc (Obj.cells #[.int .i64 n, .int .i64 x, .slice ao E.length c] 24)))
  have KW := Lib.hid awake_any
  obtain ⟨y0, y1, y2, y3⟩ := hX
  clear hA hr hR
  cases hf : fewG n E with
  | false =>
    rw [hf] at KF
    go_enter Try.func3, Try.ntmps3
    go_wp2_with (first | (go_at_call 13; refine (KF.out).mono ?_; rintro e w1 ⟨rfl, hb⟩; refine Hid.out ?_) | fail)
    have HB1 := Lib.hid (Below.chain HB.out hb); clear hb HB
    refine Lib.hid ?_
    go_wp2_with (first | (go_at_call 14; refine (KW.out _).mono ?_; rintro e w2 ⟨rfl, hb⟩; refine Hid.out ?_) | fail)
    have HB2 := Lib.hid (Below.chain HB1.out hb); clear hb
    refine Lib.hid ?_
    go_wp2_with fail
    go_ret
    exact ⟨rfl, HB2.out⟩
  | true =>
    rw [hf] at KF
    go_enter Try.func3, Try.ntmps3
    go_wp2_with (first | (go_at_call 13; refine (KF.out).mono ?_; rintro e w1 ⟨rfl, hb⟩; refine Hid.out ?_) | fail)
    have hx1 := HX.out.below hb; clear HX; have HX := Lib.hid hx1
    have hb1 := Below.chain HB.out hb; clear HB; have HB := Lib.hid hb1
    clear hb hx1 hb1 y0 y1 y2 y3 KF
    have HK := Lib.hid (out_u n x ao c E w1 (HR.out _ HB.out))
    obtain ⟨y0, y1, y2, y3⟩ := HX.out
    refine Lib.hid ?_
    go_wp2_with (first | (go_at_call 15; refine (HK.out).mono ?_; rintro e w2 ⟨hb, v0, rfl, ht⟩; refine Hid.out ?_) | fail)
    have hx1 := HX.out.below hb; clear HX; have HX := Lib.hid hx1
    have hb1 := Below.chain HB.out hb; clear HB; have HB := Lib.hid hb1
    have T0 := Lib.hid ht
    clear hb hx1 hb1 y0 y1 y2 y3 HK ht
    have HK := Lib.hid (rout_u n x ao c E w2 (HR.out _ HB.out))
    obtain ⟨y0, y1, y2, y3⟩ := HX.out
    refine Lib.hid ?_
    go_wp2_with (first | (go_at_call 16; refine (HK.out).mono ?_; rintro e w3 ⟨hb, v1, rfl, ht⟩; refine Hid.out ?_) | fail)
    have hx1 := HX.out.below hb; clear HX; have HX := Lib.hid hx1
    have hb1 := Below.chain HB.out hb; clear HB; have HB := Lib.hid hb1
    have T0x := Lib.hid (T0.out.below hb); clear T0; have T0 := T0x; clear T0x
    have T1 := Lib.hid ht
    clear hb hx1 hb1 y0 y1 y2 y3 HK ht
    have HK := Lib.hid (in_u n x ao c E w3 (HR.out _ HB.out))
    obtain ⟨y0, y1, y2, y3⟩ := HX.out
    refine Lib.hid ?_
    go_wp2_with (first | (go_at_call 17; refine (HK.out).mono ?_; rintro e w4 ⟨hb, v2, rfl, ht⟩; refine Hid.out ?_) | fail)
    have hx1 := HX.out.below hb; clear HX; have HX := Lib.hid hx1
    have hb1 := Below.chain HB.out hb; clear HB; have HB := Lib.hid hb1
    have T0x := Lib.hid (T0.out.below hb); clear T0; have T0 := T0x; clear T0x
    have T1x := Lib.hid (T1.out.below hb); clear T1; have T1 := T1x; clear T1x
    have T2 := Lib.hid ht
    clear hb hx1 hb1 y0 y1 y2 y3 HK ht
    have HK := Lib.hid (rin_u n x ao c E w4 (HR.out _ HB.out))
    obtain ⟨y0, y1, y2, y3⟩ := HX.out
    refine Lib.hid ?_
    go_wp2_with (first | (go_at_call 18; refine (HK.out).mono ?_; rintro e w5 ⟨hb, v3, rfl, ht⟩; refine Hid.out ?_) | fail)
    have hx1 := HX.out.below hb; clear HX; have HX := Lib.hid hx1
    have hb1 := Below.chain HB.out hb; clear HB; have HB := Lib.hid hb1
    have T0x := Lib.hid (T0.out.below hb); clear T0; have T0 := T0x; clear T0x
    have T1x := Lib.hid (T1.out.below hb); clear T1; have T1 := T1x; clear T1x
    have T2x := Lib.hid (T2.out.below hb); clear T2; have T2 := T2x; clear T2x
    have T3 := Lib.hid ht
    clear hb hx1 hb1 y0 y1 y2 y3 HK ht
    have HK := Lib.hid (reach_u n x ao c E w5 (HR.out _ HB.out) from_)
    obtain ⟨y0, y1, y2, y3⟩ := HX.out
    refine Lib.hid ?_
    go_wp2_with (first | (go_at_call 19; refine (HK.out).mono ?_; rintro e w6 ⟨hb, p4, k4, rfl, ht⟩; refine Hid.out ?_) | fail)
    have hx1 := HX.out.below hb; clear HX; have HX := Lib.hid hx1
    have hb1 := Below.chain HB.out hb; clear HB; have HB := Lib.hid hb1
    have T0x := Lib.hid (T0.out.below hb); clear T0; have T0 := T0x; clear T0x
    have T1x := Lib.hid (T1.out.below hb); clear T1; have T1 := T1x; clear T1x
    have T2x := Lib.hid (T2.out.below hb); clear T2; have T2 := T2x; clear T2x
    have T3x := Lib.hid (T3.out.below hb); clear T3; have T3 := T3x; clear T3x
    have T4 := Lib.hid ht
    clear hb hx1 hb1 y0 y1 y2 y3 HK ht
    have HK := Lib.hid (rreach_u n x ao c E w6 (HR.out _ HB.out) from_)
    obtain ⟨y0, y1, y2, y3⟩ := HX.out
    refine Lib.hid ?_
    go_wp2_with (first | (go_at_call 20; refine (HK.out).mono ?_; rintro e w7 ⟨hb, p5, k5, rfl, ht⟩; refine Hid.out ?_) | fail)
    have hx1 := HX.out.below hb; clear HX; have HX := Lib.hid hx1
    have hb1 := Below.chain HB.out hb; clear HB; have HB := Lib.hid hb1
    have T0x := Lib.hid (T0.out.below hb); clear T0; have T0 := T0x; clear T0x
    have T1x := Lib.hid (T1.out.below hb); clear T1; have T1 := T1x; clear T1x
    have T2x := Lib.hid (T2.out.below hb); clear T2; have T2 := T2x; clear T2x
    have T3x := Lib.hid (T3.out.below hb); clear T3; have T3 := T3x; clear T3x
    have T4x := Lib.hid (T4.out.below hb); clear T4; have T4 := T4x; clear T4x
    have T5 := Lib.hid ht
    clear hb hx1 hb1 y0 y1 y2 y3 HK ht
    have g0 := fun d os => cell_regrown HX.out.c0 d os
    have g1 := fun d os => cell_regrown HX.out.c1 d os
    have g2 := fun d os => cell_regrown HX.out.c2 d os
    have q1 := fun d os => Calls.regrown_of (d := d) (os := os) (awake_any (grow (redrawn w7 d) os))
    have q2 := fun d os => Calls.regrown_of (d := d) (os := os) (check_any n x ao c E (grow (redrawn w7 d) os) (HR.out _ (HB.out.trans ((below_regrown w7 d os).mono HB.out.size))))
    have q3 := fun d os => Calls.regrown_of (d := d) (os := os) (refCheck_any n x ao c E (grow (redrawn w7 d) os) (HR.out _ (HB.out.trans ((below_regrown w7 d os).mono HB.out.size))))
    have q4 := fun d os => Calls.regrown_of (d := d) (os := os) (sameLists_any (grow (redrawn w7 d) os) (T0.out.below (below_regrown w7 d os)) (T1.out.below (below_regrown w7 d os)) (tabL_len ..) (tabL_len ..) (fun p => tabL_row ..) (fun p => tabL_row ..))
    have q5 := fun d os => Calls.regrown_of (d := d) (os := os) (sameLists_any (grow (redrawn w7 d) os) (T2.out.below (below_regrown w7 d os)) (T3.out.below (below_regrown w7 d os)) (tabL_len ..) (tabL_len ..) (fun p => tabL_row ..) (fun p => tabL_row ..))
    have q6 := fun d os => Calls.regrown_of (d := d) (os := os) (eqB_any p4 p5 (rchN n x E from_) k4 k5 (rchB n E from_) (grow (redrawn w7 d) os) (rchN_le ..) ((T4.out.below (below_regrown w7 d os)).both (T5.out.below (below_regrown w7 d os))))
    simp only [decide_true] at q4 q5
    have Q1 := Lib.hid q1; have Q2 := Lib.hid q2; have Q3 := Lib.hid q3; have Q4 := Lib.hid q4; have Q5 := Lib.hid q5; have Q6 := Lib.hid q6
    clear q1 q2 q3 q4 q5 q6
    refine Lib.hid ?_
    go_wp2_with fail
    refine wp_region_quiet_below (by kernel_rfl) (by kernel_rfl) ?_
    repeat (quiet_step (first | (with_reducible exact Q1.out _ _) | (with_reducible exact Q2.out _ _) | (with_reducible exact Q3.out _ _) | (with_reducible exact Q4.out _ _) | (with_reducible exact Q5.out _ _) | (with_reducible exact Q6.out _ _)))
    refine wpQuiet_nil ?_
    intro _ hw'
    obtain ⟨⟨dq, osq⟩, hw''⟩ := hw'
    subst hw''
    have HB9 := Lib.hid (HB.out.trans ((below_regrown w7 dq osq).mono HB.out.size))
    clear g0 g1 g2
    go_wp2_with fail
    refine bodyPost_ret (by first | (simp [results, Try.results3, go_sem]; done) | (simp [results, Try.results3, go_sem]; rfl)) rfl ?_
    exact ⟨rfl, HB9.out⟩
end Go.Proofs.Ytjjkabgbcflipaa
