import Derived.Test.YtdibcllakkjegaaGreatDoorCut24
import Derived.Test.YtdibcllakkjegaaGreatDoorCut21
import Derived.Test.YtdibcllakkjegaaGreatDoorCut26
import Derived.Test.YtdibcllakkjegaaGreatDoorRows
import Derived.HandedShaped
import Derived.Handed
import Derived.Lay
import Derived.LaidMore
import Derived.LaidLaws
import Derived.LaidHandle
import Derived.MakeChecks
import Derived.Lib.LaidTab
import Derived.Stop.Joined
import Derived.Stop.LaidErr
import Derived.OpenShut
import Derived.ProofKit
import Derived.DataShut

set_option linter.unusedVariables false
/-
  parser: operatorLevels.
-/
set_option linter.unusedSimpArgs false
set_option linter.unusedVariables false
namespace Go.Proofs.YtdibcllakkjegaaGreatDoor
open Go Go.Proofs Go.RowKit Go.Sort
theorem alloc_new (W : World) (c : Array Value) (t : TypeId) (p : Nat) (hp : p = W.heap.size) (i : Nat) (v : Value) (hv : c[i]? = some v) : (W.alloc (Obj.cells c t)).cell? ⟨p, i, none⟩ = some v := by
  subst hp
  exact (World.cell?_alloc_new W c t i).trans hv
theorem size_alloc (W : World) (o : Obj) : (W.alloc o).heap.size = W.heap.size + 1 := by simp
set_option maxRecDepth 20000 in
set_option maxHeartbeats 4000000 in
theorem poperatorLevels (R : Nat) (w : World) (hR : R < w.heap.size) :
    Calls Tryz.prog 92 #[.pointer (some ⟨R, 0, none⟩)] w fun e w' => ∃ b, e = .returned (.slice (some ⟨b, 0, none⟩) 8 8) ∧ b ≠ R ∧ b < w'.heap.size ∧
      (∀ i, i < 8 → w'.cell? ⟨b, 2 * i, none⟩ = some (.func (.func (lvF i)) #[.pointer (some ⟨R, 0, none⟩)] #[]) ∧ ∃ v, w'.cell? ⟨b, 2 * i + 1, none⟩ = some v ∧ opsAt R w' (lvO i) v) ∧ Below w.heap.size w w' := by
  have HR := Lib.hid hR
  clear hR
  go_enter Tryz.func92, Tryz.ntmps92
  go_wp2
  go_ret
  have hR := HR.out
  generalize hW1 : World.alloc w (Obj.cells #[.string ⟨#[111, 114]⟩] 9) = W1
  have z1 : W1.heap.size = w.heap.size + 1 := by rw [← hW1]; exact size_alloc _ _
  have b1 : Below w.heap.size w W1 := by rw [← hW1]; exact (Below.refl _ _).alloc (Nat.le_refl _) _
  have c1_0 : W1.cell? ⟨w.heap.size, 0, none⟩ = some (.string ⟨#[111, 114]⟩) := by rw [← hW1]; exact alloc_new _ _ _ _ (by omega) _ _ rfl
  generalize hW2 : World.alloc W1 (Obj.cells #[.string ⟨#[97, 110, 100]⟩] 9) = W2
  have z2 : W2.heap.size = W1.heap.size + 1 := by rw [← hW2]; exact size_alloc _ _
  have b2 : Below W1.heap.size W1 W2 := by rw [← hW2]; exact (Below.refl _ _).alloc (Nat.le_refl _) _
  have c2_0 : W2.cell? ⟨w.heap.size + 1, 0, none⟩ = some (.string ⟨#[97, 110, 100]⟩) := by rw [← hW2]; exact alloc_new _ _ _ _ (by omega) _ _ rfl
  generalize hW3 : World.alloc W2 (Obj.cells #[.string ⟨#[110, 111, 116]⟩] 9) = W3
  have z3 : W3.heap.size = W2.heap.size + 1 := by rw [← hW3]; exact size_alloc _ _
  have b3 : Below W2.heap.size W2 W3 := by rw [← hW3]; exact (Below.refl _ _).alloc (Nat.le_refl _) _
  have c3_0 : W3.cell? ⟨w.heap.size + 1 + 1, 0, none⟩ = some (.string ⟨#[110, 111, 116]⟩) := by rw [← hW3]; exact alloc_new _ _ _ _ (by omega) _ _ rfl
  generalize hW4 : World.alloc W3 (Obj.cells #[.string ⟨#[61]⟩, .string ⟨#[33, 61]⟩, .string ⟨#[60]⟩, .string ⟨#[60, 61]⟩, .string ⟨#[62]⟩, .string ⟨#[62, 61]⟩] 9) = W4
  have z4 : W4.heap.size = W3.heap.size + 1 := by rw [← hW4]; exact size_alloc _ _
  have b4 : Below W3.heap.size W3 W4 := by rw [← hW4]; exact (Below.refl _ _).alloc (Nat.le_refl _) _
  have c4_0 : W4.cell? ⟨w.heap.size + 1 + 1 + 1, 0, none⟩ = some (.string ⟨#[61]⟩) := by rw [← hW4]; exact alloc_new _ _ _ _ (by omega) _ _ rfl
  have c4_1 : W4.cell? ⟨w.heap.size + 1 + 1 + 1, 1, none⟩ = some (.string ⟨#[33, 61]⟩) := by rw [← hW4]; exact alloc_new _ _ _ _ (by omega) _ _ rfl
  have c4_2 : W4.cell? ⟨w.heap.size + 1 + 1 + 1, 2, none⟩ = some (.string ⟨#[60]⟩) := by rw [← hW4]; exact alloc_new _ _ _ _ (by omega) _ _ rfl
  have c4_3 : W4.cell? ⟨w.heap.size + 1 + 1 + 1, 3, none⟩ = some (.string ⟨#[60, 61]⟩) := by rw [← hW4]; exact alloc_new _ _ _ _ (by omega) _ _ rfl
  have c4_4 : W4.cell? ⟨w.heap.size + 1 + 1 + 1, 4, none⟩ = some (.string ⟨#[62]⟩) := by rw [← hW4]; exact alloc_new _ _ _ _ (by omega) _ _ rfl
  have c4_5 : W4.cell? ⟨w.heap.size + 1 + 1 + 1, 5, none⟩ = some (.string ⟨#[62, 61]⟩) := by rw [← hW4]; exact alloc_new _ _ _ _ (by omega) _ _ rfl
  generalize hW5 : World.alloc W4 (Obj.cells #[.string ⟨#[43]⟩, .string ⟨#[45]⟩] 9) = W5
  have z5 : W5.heap.size = W4.heap.size + 1 := by rw [← hW5]; exact size_alloc _ _
  have b5 : Below W4.heap.size W4 W5 := by rw [← hW5]; exact (Below.refl _ _).alloc (Nat.le_refl _) _
  have c5_0 : W5.cell? ⟨w.heap.size + 1 + 1 + 1 + 1, 0, none⟩ = some (.string ⟨#[43]⟩) := by rw [← hW5]; exact alloc_new _ _ _ _ (by omega) _ _ rfl
  have c5_1 : W5.cell? ⟨w.heap.size + 1 + 1 + 1 + 1, 1, none⟩ = some (.string ⟨#[45]⟩) := by rw [← hW5]; exact alloc_new _ _ _ _ (by omega) _ _ rfl
  generalize hW6 : World.alloc W5 (Obj.cells #[.string ⟨#[42]⟩, .string ⟨#[47]⟩, .string ⟨#[37]⟩] 9) = W6
  have z6 : W6.heap.size = W5.heap.size + 1 := by rw [← hW6]; exact size_alloc _ _
  have b6 : Below W5.heap.size W5 W6 := by rw [← hW6]; exact (Below.refl _ _).alloc (Nat.le_refl _) _
  have c6_0 : W6.cell? ⟨w.heap.size + 1 + 1 + 1 + 1 + 1, 0, none⟩ = some (.string ⟨#[42]⟩) := by rw [← hW6]; exact alloc_new _ _ _ _ (by omega) _ _ rfl
  have c6_1 : W6.cell? ⟨w.heap.size + 1 + 1 + 1 + 1 + 1, 1, none⟩ = some (.string ⟨#[47]⟩) := by rw [← hW6]; exact alloc_new _ _ _ _ (by omega) _ _ rfl
  have c6_2 : W6.cell? ⟨w.heap.size + 1 + 1 + 1 + 1 + 1, 2, none⟩ = some (.string ⟨#[37]⟩) := by rw [← hW6]; exact alloc_new _ _ _ _ (by omega) _ _ rfl
  generalize hW7 : World.alloc W6 (Obj.cells #[.string ⟨#[45]⟩] 9) = W7
  have z7 : W7.heap.size = W6.heap.size + 1 := by rw [← hW7]; exact size_alloc _ _
  have b7 : Below W6.heap.size W6 W7 := by rw [← hW7]; exact (Below.refl _ _).alloc (Nat.le_refl _) _
  have c7_0 : W7.cell? ⟨w.heap.size + 1 + 1 + 1 + 1 + 1 + 1, 0, none⟩ = some (.string ⟨#[45]⟩) := by rw [← hW7]; exact alloc_new _ _ _ _ (by omega) _ _ rfl
  generalize hW8 : World.alloc W7 (Obj.cells #[.func (.func 118) #[.pointer (some ⟨R, 0, none⟩)] #[], .slice (some ⟨w.heap.size, 0, none⟩) 1 1, .func (.func 118) #[.pointer (some ⟨R, 0, none⟩)] #[], .slice (some ⟨w.heap.size + 1, 0, none⟩) 1 1, .func (.func 119) #[.pointer (some ⟨R, 0, none⟩)] #[], .slice (some ⟨w.heap.size + 1 + 1, 0, none⟩) 1 1, .func (.func 120) #[.pointer (some ⟨R, 0, none⟩)] #[], .slice (some ⟨w.heap.size + 1 + 1 + 1, 0, none⟩) 6 6, .func (.func 118) #[.pointer (some ⟨R, 0, none⟩)] #[], .slice (some ⟨w.heap.size + 1 + 1 + 1 + 1, 0, none⟩) 2 2, .func (.func 118) #[.pointer (some ⟨R, 0, none⟩)] #[], .slice (some ⟨w.heap.size + 1 + 1 + 1 + 1 + 1, 0, none⟩) 3 3, .func (.func 119) #[.pointer (some ⟨R, 0, none⟩)] #[], .slice (some ⟨w.heap.size + 1 + 1 + 1 + 1 + 1 + 1, 0, none⟩) 1 1, .func (.func 121) #[.pointer (some ⟨R, 0, none⟩)] #[], .slice none 0 0] 112) = W8
  have z8 : W8.heap.size = W7.heap.size + 1 := by rw [← hW8]; exact size_alloc _ _
  have b8 : Below W7.heap.size W7 W8 := by rw [← hW8]; exact (Below.refl _ _).alloc (Nat.le_refl _) _
  have c8_0 : W8.cell? ⟨w.heap.size + 1 + 1 + 1 + 1 + 1 + 1 + 1, 0, none⟩ = some (.func (.func 118) #[.pointer (some ⟨R, 0, none⟩)] #[]) := by rw [← hW8]; exact alloc_new _ _ _ _ (by omega) _ _ rfl
  have c8_1 : W8.cell? ⟨w.heap.size + 1 + 1 + 1 + 1 + 1 + 1 + 1, 1, none⟩ = some (.slice (some ⟨w.heap.size, 0, none⟩) 1 1) := by rw [← hW8]; exact alloc_new _ _ _ _ (by omega) _ _ rfl
  have c8_2 : W8.cell? ⟨w.heap.size + 1 + 1 + 1 + 1 + 1 + 1 + 1, 2, none⟩ = some (.func (.func 118) #[.pointer (some ⟨R, 0, none⟩)] #[]) := by rw [← hW8]; exact alloc_new _ _ _ _ (by omega) _ _ rfl
  have c8_3 : W8.cell? ⟨w.heap.size + 1 + 1 + 1 + 1 + 1 + 1 + 1, 3, none⟩ = some (.slice (some ⟨w.heap.size + 1, 0, none⟩) 1 1) := by rw [← hW8]; exact alloc_new _ _ _ _ (by omega) _ _ rfl
  have c8_4 : W8.cell? ⟨w.heap.size + 1 + 1 + 1 + 1 + 1 + 1 + 1, 4, none⟩ = some (.func (.func 119) #[.pointer (some ⟨R, 0, none⟩)] #[]) := by rw [← hW8]; exact alloc_new _ _ _ _ (by omega) _ _ rfl
  have c8_5 : W8.cell? ⟨w.heap.size + 1 + 1 + 1 + 1 + 1 + 1 + 1, 5, none⟩ = some (.slice (some ⟨w.heap.size + 1 + 1, 0, none⟩) 1 1) := by rw [← hW8]; exact alloc_new _ _ _ _ (by omega) _ _ rfl
  have c8_6 : W8.cell? ⟨w.heap.size + 1 + 1 + 1 + 1 + 1 + 1 + 1, 6, none⟩ = some (.func (.func 120) #[.pointer (some ⟨R, 0, none⟩)] #[]) := by rw [← hW8]; exact alloc_new _ _ _ _ (by omega) _ _ rfl
  have c8_7 : W8.cell? ⟨w.heap.size + 1 + 1 + 1 + 1 + 1 + 1 + 1, 7, none⟩ = some (.slice (some ⟨w.heap.size + 1 + 1 + 1, 0, none⟩) 6 6) := by rw [← hW8]; exact alloc_new _ _ _ _ (by omega) _ _ rfl
  have c8_8 : W8.cell? ⟨w.heap.size + 1 + 1 + 1 + 1 + 1 + 1 + 1, 8, none⟩ = some (.func (.func 118) #[.pointer (some ⟨R, 0, none⟩)] #[]) := by rw [← hW8]; exact alloc_new _ _ _ _ (by omega) _ _ rfl
  have c8_9 : W8.cell? ⟨w.heap.size + 1 + 1 + 1 + 1 + 1 + 1 + 1, 9, none⟩ = some (.slice (some ⟨w.heap.size + 1 + 1 + 1 + 1, 0, none⟩) 2 2) := by rw [← hW8]; exact alloc_new _ _ _ _ (by omega) _ _ rfl
  have c8_10 : W8.cell? ⟨w.heap.size + 1 + 1 + 1 + 1 + 1 + 1 + 1, 10, none⟩ = some (.func (.func 118) #[.pointer (some ⟨R, 0, none⟩)] #[]) := by rw [← hW8]; exact alloc_new _ _ _ _ (by omega) _ _ rfl
  have c8_11 : W8.cell? ⟨w.heap.size + 1 + 1 + 1 + 1 + 1 + 1 + 1, 11, none⟩ = some (.slice (some ⟨w.heap.size + 1 + 1 + 1 + 1 + 1, 0, none⟩) 3 3) := by rw [← hW8]; exact alloc_new _ _ _ _ (by omega) _ _ rfl
  have c8_12 : W8.cell? ⟨w.heap.size + 1 + 1 + 1 + 1 + 1 + 1 + 1, 12, none⟩ = some (.func (.func 119) #[.pointer (some ⟨R, 0, none⟩)] #[]) := by rw [← hW8]; exact alloc_new _ _ _ _ (by omega) _ _ rfl
  have c8_13 : W8.cell? ⟨w.heap.size + 1 + 1 + 1 + 1 + 1 + 1 + 1, 13, none⟩ = some (.slice (some ⟨w.heap.size + 1 + 1 + 1 + 1 + 1 + 1, 0, none⟩) 1 1) := by rw [← hW8]; exact alloc_new _ _ _ _ (by omega) _ _ rfl
  have c8_14 : W8.cell? ⟨w.heap.size + 1 + 1 + 1 + 1 + 1 + 1 + 1, 14, none⟩ = some (.func (.func 121) #[.pointer (some ⟨R, 0, none⟩)] #[]) := by rw [← hW8]; exact alloc_new _ _ _ _ (by omega) _ _ rfl
  have c8_15 : W8.cell? ⟨w.heap.size + 1 + 1 + 1 + 1 + 1 + 1 + 1, 15, none⟩ = some (.slice none 0 0) := by rw [← hW8]; exact alloc_new _ _ _ _ (by omega) _ _ rfl
  have d8 : Below W8.heap.size W8 W8 := Below.refl _ _
  have d7 : Below W7.heap.size W7 W8 := Below.chain b8 d8
  have d6 : Below W6.heap.size W6 W8 := Below.chain b7 d7
  have d5 : Below W5.heap.size W5 W8 := Below.chain b6 d6
  have d4 : Below W4.heap.size W4 W8 := Below.chain b5 d5
  have d3 : Below W3.heap.size W3 W8 := Below.chain b4 d4
  have d2 : Below W2.heap.size W2 W8 := Below.chain b3 d3
  have d1 : Below W1.heap.size W1 W8 := Below.chain b2 d2
  have d0 : Below w.heap.size w W8 := Below.chain b1 d1
  refine ⟨w.heap.size + 1 + 1 + 1 + 1 + 1 + 1 + 1, rfl, by omega, by omega, fun i hi => ?_, d0⟩
  match i, hi with
  | 0, _ =>
    refine ⟨c8_0, _, c8_1, .inr ⟨w.heap.size, rfl, by omega, by omega, fun j hj => ?_⟩⟩
    match j, hj with
    | 0, _ => exact (d1.cell (p := ⟨w.heap.size, 0, none⟩) (show w.heap.size < W1.heap.size by omega)).trans c1_0
  | 1, _ =>
    refine ⟨c8_2, _, c8_3, .inr ⟨w.heap.size + 1, rfl, by omega, by omega, fun j hj => ?_⟩⟩
    match j, hj with
    | 0, _ => exact (d2.cell (p := ⟨w.heap.size + 1, 0, none⟩) (show w.heap.size + 1 < W2.heap.size by omega)).trans c2_0
  | 2, _ =>
    refine ⟨c8_4, _, c8_5, .inr ⟨w.heap.size + 1 + 1, rfl, by omega, by omega, fun j hj => ?_⟩⟩
    match j, hj with
    | 0, _ => exact (d3.cell (p := ⟨w.heap.size + 1 + 1, 0, none⟩) (show w.heap.size + 1 + 1 < W3.heap.size by omega)).trans c3_0
  | 3, _ =>
    refine ⟨c8_6, _, c8_7, .inr ⟨w.heap.size + 1 + 1 + 1, rfl, by omega, by omega, fun j hj => ?_⟩⟩
    match j, hj with
    | 0, _ => exact (d4.cell (p := ⟨w.heap.size + 1 + 1 + 1, 0, none⟩) (show w.heap.size + 1 + 1 + 1 < W4.heap.size by omega)).trans c4_0
    | 1, _ => exact (d4.cell (p := ⟨w.heap.size + 1 + 1 + 1, 1, none⟩) (show w.heap.size + 1 + 1 + 1 < W4.heap.size by omega)).trans c4_1
    | 2, _ => exact (d4.cell (p := ⟨w.heap.size + 1 + 1 + 1, 2, none⟩) (show w.heap.size + 1 + 1 + 1 < W4.heap.size by omega)).trans c4_2
    | 3, _ => exact (d4.cell (p := ⟨w.heap.size + 1 + 1 + 1, 3, none⟩) (show w.heap.size + 1 + 1 + 1 < W4.heap.size by omega)).trans c4_3
    | 4, _ => exact (d4.cell (p := ⟨w.heap.size + 1 + 1 + 1, 4, none⟩) (show w.heap.size + 1 + 1 + 1 < W4.heap.size by omega)).trans c4_4
    | 5, _ => exact (d4.cell (p := ⟨w.heap.size + 1 + 1 + 1, 5, none⟩) (show w.heap.size + 1 + 1 + 1 < W4.heap.size by omega)).trans c4_5
  | 4, _ =>
    refine ⟨c8_8, _, c8_9, .inr ⟨w.heap.size + 1 + 1 + 1 + 1, rfl, by omega, by omega, fun j hj => ?_⟩⟩
    match j, hj with
    | 0, _ => exact (d5.cell (p := ⟨w.heap.size + 1 + 1 + 1 + 1, 0, none⟩) (show w.heap.size + 1 + 1 + 1 + 1 < W5.heap.size by omega)).trans c5_0
    | 1, _ => exact (d5.cell (p := ⟨w.heap.size + 1 + 1 + 1 + 1, 1, none⟩) (show w.heap.size + 1 + 1 + 1 + 1 < W5.heap.size by omega)).trans c5_1
  | 5, _ =>
    refine ⟨c8_10, _, c8_11, .inr ⟨w.heap.size + 1 + 1 + 1 + 1 + 1, rfl, by omega, by omega, fun j hj => ?_⟩⟩
    match j, hj with
    | 0, _ => exact (d6.cell (p := ⟨w.heap.size + 1 + 1 + 1 + 1 + 1, 0, none⟩) (show w.heap.size + 1 + 1 + 1 + 1 + 1 < W6.heap.size by omega)).trans c6_0
    | 1, _ => exact (d6.cell (p := ⟨w.heap.size + 1 + 1 + 1 + 1 + 1, 1, none⟩) (show w.heap.size + 1 + 1 + 1 + 1 + 1 < W6.heap.size by omega)).trans c6_1
    | 2, _ => exact (d6.cell (p := ⟨w.heap.size + 1 + 1 + 1 + 1 + 1, 2, none⟩) (show w.heap.size + 1 + 1 + 1 + 1 + 1 < W6.heap.size by omega)).trans c6_2
  | 6, _ =>
    refine ⟨c8_12, _, c8_13, .inr ⟨w.heap.size + 1 + 1 + 1 + 1 + 1 + 1, rfl, by omega, by omega, fun j hj => ?_⟩⟩
    match j, hj with
    | 0, _ => exact (d7.cell (p := ⟨w.heap.size + 1 + 1 + 1 + 1 + 1 + 1, 0, none⟩) (show w.heap.size + 1 + 1 + 1 + 1 + 1 + 1 < W7.heap.size by omega)).trans c7_0
  | 7, _ =>
    exact ⟨c8_14, _, c8_15, .inl ⟨rfl, rfl⟩⟩
theorem push_key {w : World} {b : Nat} {es : Array MapEntry} {clock : Nat} (hb : w.heap[b]? = some (.map es clock)) (s : ByteArray) (v : Value)
    (h1 : Instr.findNow .string (.string s) es.toList 0 = some none) :
    (Instr.mapUpdate 83 (.map (some b)) (.string s) v).run Tryz.prog w = .ok () (Go.ChangeMaps.setBlock w b (.map (es.push ⟨.string s, v, clock⟩) (clock + 1))) := by
  have hkey : MapKept.IsKey .string (.string s) := trivial
  simp [Instr.mapUpdate, run_underlying Tryz.underlying83, MapKept.run_getObj_map hb, MapKept.run_checkKey Tryz.underlying9 hkey, MapKept.run_findKey Tryz.underlying9 h1, MapKept.run_setObj_map _ hb, Result.andThen, Go.ChangeMaps.setBlock]
theorem setBlock_below9 {w0 w : World} {b : Nat} (h : Below w0.heap.size w0 w) (hb : w0.heap.size ≤ b) (o : Obj) : Below w0.heap.size w0 (Go.ChangeMaps.setBlock w b o) := by
  refine h.trans ⟨rfl, rfl, rfl, by simp [Go.ChangeMaps.setBlock], fun i hi => ?_⟩
  simp [Go.ChangeMaps.setBlock]
  rw [Array.getElem?_setIfInBounds_ne (by omega)]
theorem starts_runs (R : Nat) (w : World) : ∃ W1 W2 W3 W4 W5 : World,
    (Instr.mapUpdate 83 (.map (some (w.heap.size + 1))) (.string ⟨#[110, 97, 109, 101]⟩) (.func (.func 122) #[.pointer (some ⟨R, 0, none⟩)] #[])).run Tryz.prog ((w.alloc (Obj.cells #[.pointer (some ⟨R, 0, none⟩)] 64)).alloc (.map #[] 0)) = .ok () W1 ∧ W1.cell? ⟨w.heap.size, 0, none⟩ = some (.pointer (some ⟨R, 0, none⟩)) ∧
    (Instr.mapUpdate 83 (.map (some (w.heap.size + 1))) (.string ⟨#[105, 102]⟩) (.func (.func 123) #[.pointer (some ⟨R, 0, none⟩)] #[])).run Tryz.prog W1 = .ok () W2 ∧ W2.cell? ⟨w.heap.size, 0, none⟩ = some (.pointer (some ⟨R, 0, none⟩)) ∧
    (Instr.mapUpdate 83 (.map (some (w.heap.size + 1))) (.string ⟨#[119, 104, 105, 108, 101]⟩) (.func (.func 124) #[.pointer (some ⟨R, 0, none⟩)] #[])).run Tryz.prog W2 = .ok () W3 ∧ W3.cell? ⟨w.heap.size, 0, none⟩ = some (.pointer (some ⟨R, 0, none⟩)) ∧
    (Instr.mapUpdate 83 (.map (some (w.heap.size + 1))) (.string ⟨#[97, 115, 115, 101, 114, 116]⟩) (.func (.func 125) #[] #[.pointer (some ⟨w.heap.size, 0, none⟩)])).run Tryz.prog W3 = .ok () W4 ∧ W4.cell? ⟨w.heap.size, 0, none⟩ = some (.pointer (some ⟨R, 0, none⟩)) ∧
    (Instr.mapUpdate 83 (.map (some (w.heap.size + 1))) (.string ⟨#[97, 115, 115, 117, 109, 101]⟩) (.func (.func 127) #[] #[.pointer (some ⟨w.heap.size, 0, none⟩)])).run Tryz.prog W4 = .ok () W5 ∧ W5.cell? ⟨w.heap.size, 0, none⟩ = some (.pointer (some ⟨R, 0, none⟩)) ∧
    W5.heap[w.heap.size + 1]? = some (.map #[⟨.string ⟨#[110, 97, 109, 101]⟩, (.func (.func 122) #[.pointer (some ⟨R, 0, none⟩)] #[]), 0⟩, ⟨.string ⟨#[105, 102]⟩, (.func (.func 123) #[.pointer (some ⟨R, 0, none⟩)] #[]), 1⟩, ⟨.string ⟨#[119, 104, 105, 108, 101]⟩, (.func (.func 124) #[.pointer (some ⟨R, 0, none⟩)] #[]), 2⟩, ⟨.string ⟨#[97, 115, 115, 101, 114, 116]⟩, (.func (.func 125) #[] #[.pointer (some ⟨w.heap.size, 0, none⟩)]), 3⟩, ⟨.string ⟨#[97, 115, 115, 117, 109, 101]⟩, (.func (.func 127) #[] #[.pointer (some ⟨w.heap.size, 0, none⟩)]), 4⟩] 5) ∧ w.heap.size + 1 < W5.heap.size ∧ Below w.heap.size w W5 := by
  have B : Below (w.alloc (Obj.cells #[.pointer (some ⟨R, 0, none⟩)] 64)).heap.size (w.alloc (Obj.cells #[.pointer (some ⟨R, 0, none⟩)] 64)) ((w.alloc (Obj.cells #[.pointer (some ⟨R, 0, none⟩)] 64)).alloc (.map #[] 0)) := (Below.refl _ _).alloc (Nat.le_refl _) _
  have BA : Below w.heap.size w (w.alloc (Obj.cells #[.pointer (some ⟨R, 0, none⟩)] 64)) := (Below.refl _ _).alloc (Nat.le_refl _) _
  have hq : (w.alloc (Obj.cells #[.pointer (some ⟨R, 0, none⟩)] 64)).cell? ⟨w.heap.size, 0, none⟩ = some (.pointer (some ⟨R, 0, none⟩)) := World.cell?_alloc_new _ _ _ _
  have hsz : (w.alloc (Obj.cells #[.pointer (some ⟨R, 0, none⟩)] 64)).heap.size = w.heap.size + 1 := by simp
  generalize w.alloc (Obj.cells #[.pointer (some ⟨R, 0, none⟩)] 64) = V at *
  have h0 : (V.alloc (.map #[] 0)).heap[w.heap.size + 1]? = some (.map #[] 0) := by
    rw [← hsz]
    exact Array.getElem?_push_size
  have s0 : (V.alloc (.map #[] 0)).heap.size = w.heap.size + 2 := by simp [hsz]
  have r1 := push_key (w := (V.alloc (.map #[] 0))) h0 ⟨#[110, 97, 109, 101]⟩ (.func (.func 122) #[.pointer (some ⟨R, 0, none⟩)] #[]) rfl
  have h1 := Go.ChangeMaps.heap_setBlock_same h0 (.map ((#[]).push ⟨.string ⟨#[110, 97, 109, 101]⟩, (.func (.func 122) #[.pointer (some ⟨R, 0, none⟩)] #[]), 0⟩) (0 + 1))
  have B1 := setBlock_below9 B (by omega) (.map ((#[]).push ⟨.string ⟨#[110, 97, 109, 101]⟩, (.func (.func 122) #[.pointer (some ⟨R, 0, none⟩)] #[]), 0⟩) (0 + 1)) (b := w.heap.size + 1)
  have r2 := push_key (w := _) h1 ⟨#[105, 102]⟩ (.func (.func 123) #[.pointer (some ⟨R, 0, none⟩)] #[]) (by
    have e0 := ba_ne (show (⟨#[105, 102]⟩ : ByteArray) ≠ ⟨#[110, 97, 109, 101]⟩ by decide)
    simp [Instr.findNow, Instr.sameNow, e0])
  have h2 := Go.ChangeMaps.heap_setBlock_same h1 (.map (((#[]).push ⟨.string ⟨#[110, 97, 109, 101]⟩, (.func (.func 122) #[.pointer (some ⟨R, 0, none⟩)] #[]), 0⟩).push ⟨.string ⟨#[105, 102]⟩, (.func (.func 123) #[.pointer (some ⟨R, 0, none⟩)] #[]), 1⟩) (1 + 1))
  have B2 := setBlock_below9 B1 (by omega) (.map (((#[]).push ⟨.string ⟨#[110, 97, 109, 101]⟩, (.func (.func 122) #[.pointer (some ⟨R, 0, none⟩)] #[]), 0⟩).push ⟨.string ⟨#[105, 102]⟩, (.func (.func 123) #[.pointer (some ⟨R, 0, none⟩)] #[]), 1⟩) (1 + 1)) (b := w.heap.size + 1)
  have r3 := push_key (w := _) h2 ⟨#[119, 104, 105, 108, 101]⟩ (.func (.func 124) #[.pointer (some ⟨R, 0, none⟩)] #[]) (by
    have e0 := ba_ne (show (⟨#[119, 104, 105, 108, 101]⟩ : ByteArray) ≠ ⟨#[110, 97, 109, 101]⟩ by decide)
    have e1 := ba_ne (show (⟨#[119, 104, 105, 108, 101]⟩ : ByteArray) ≠ ⟨#[105, 102]⟩ by decide)
    simp [Instr.findNow, Instr.sameNow, e0, e1])
  have h3 := Go.ChangeMaps.heap_setBlock_same h2 (.map ((((#[]).push ⟨.string ⟨#[110, 97, 109, 101]⟩, (.func (.func 122) #[.pointer (some ⟨R, 0, none⟩)] #[]), 0⟩).push ⟨.string ⟨#[105, 102]⟩, (.func (.func 123) #[.pointer (some ⟨R, 0, none⟩)] #[]), 1⟩).push ⟨.string ⟨#[119, 104, 105, 108, 101]⟩, (.func (.func 124) #[.pointer (some ⟨R, 0, none⟩)] #[]), 2⟩) (2 + 1))
  have B3 := setBlock_below9 B2 (by omega) (.map ((((#[]).push ⟨.string ⟨#[110, 97, 109, 101]⟩, (.func (.func 122) #[.pointer (some ⟨R, 0, none⟩)] #[]), 0⟩).push ⟨.string ⟨#[105, 102]⟩, (.func (.func 123) #[.pointer (some ⟨R, 0, none⟩)] #[]), 1⟩).push ⟨.string ⟨#[119, 104, 105, 108, 101]⟩, (.func (.func 124) #[.pointer (some ⟨R, 0, none⟩)] #[]), 2⟩) (2 + 1)) (b := w.heap.size + 1)
  have r4 := push_key (w := _) h3 ⟨#[97, 115, 115, 101, 114, 116]⟩ (.func (.func 125) #[] #[.pointer (some ⟨w.heap.size, 0, none⟩)]) (by
    have e0 := ba_ne (show (⟨#[97, 115, 115, 101, 114, 116]⟩ : ByteArray) ≠ ⟨#[110, 97, 109, 101]⟩ by decide)
    have e1 := ba_ne (show (⟨#[97, 115, 115, 101, 114, 116]⟩ : ByteArray) ≠ ⟨#[105, 102]⟩ by decide)
    have e2 := ba_ne (show (⟨#[97, 115, 115, 101, 114, 116]⟩ : ByteArray) ≠ ⟨#[119, 104, 105, 108, 101]⟩ by decide)
    simp [Instr.findNow, Instr.sameNow, e0, e1, e2])
  have h4 := Go.ChangeMaps.heap_setBlock_same h3 (.map (((((#[]).push ⟨.string ⟨#[110, 97, 109, 101]⟩, (.func (.func 122) #[.pointer (some ⟨R, 0, none⟩)] #[]), 0⟩).push ⟨.string ⟨#[105, 102]⟩, (.func (.func 123) #[.pointer (some ⟨R, 0, none⟩)] #[]), 1⟩).push ⟨.string ⟨#[119, 104, 105, 108, 101]⟩, (.func (.func 124) #[.pointer (some ⟨R, 0, none⟩)] #[]), 2⟩).push ⟨.string ⟨#[97, 115, 115, 101, 114, 116]⟩, (.func (.func 125) #[] #[.pointer (some ⟨w.heap.size, 0, none⟩)]), 3⟩) (3 + 1))
  have B4 := setBlock_below9 B3 (by omega) (.map (((((#[]).push ⟨.string ⟨#[110, 97, 109, 101]⟩, (.func (.func 122) #[.pointer (some ⟨R, 0, none⟩)] #[]), 0⟩).push ⟨.string ⟨#[105, 102]⟩, (.func (.func 123) #[.pointer (some ⟨R, 0, none⟩)] #[]), 1⟩).push ⟨.string ⟨#[119, 104, 105, 108, 101]⟩, (.func (.func 124) #[.pointer (some ⟨R, 0, none⟩)] #[]), 2⟩).push ⟨.string ⟨#[97, 115, 115, 101, 114, 116]⟩, (.func (.func 125) #[] #[.pointer (some ⟨w.heap.size, 0, none⟩)]), 3⟩) (3 + 1)) (b := w.heap.size + 1)
  have r5 := push_key (w := _) h4 ⟨#[97, 115, 115, 117, 109, 101]⟩ (.func (.func 127) #[] #[.pointer (some ⟨w.heap.size, 0, none⟩)]) (by
    have e0 := ba_ne (show (⟨#[97, 115, 115, 117, 109, 101]⟩ : ByteArray) ≠ ⟨#[110, 97, 109, 101]⟩ by decide)
    have e1 := ba_ne (show (⟨#[97, 115, 115, 117, 109, 101]⟩ : ByteArray) ≠ ⟨#[105, 102]⟩ by decide)
    have e2 := ba_ne (show (⟨#[97, 115, 115, 117, 109, 101]⟩ : ByteArray) ≠ ⟨#[119, 104, 105, 108, 101]⟩ by decide)
    have e3 := ba_ne (show (⟨#[97, 115, 115, 117, 109, 101]⟩ : ByteArray) ≠ ⟨#[97, 115, 115, 101, 114, 116]⟩ by decide)
    simp [Instr.findNow, Instr.sameNow, e0, e1, e2, e3])
  have h5 := Go.ChangeMaps.heap_setBlock_same h4 (.map ((((((#[]).push ⟨.string ⟨#[110, 97, 109, 101]⟩, (.func (.func 122) #[.pointer (some ⟨R, 0, none⟩)] #[]), 0⟩).push ⟨.string ⟨#[105, 102]⟩, (.func (.func 123) #[.pointer (some ⟨R, 0, none⟩)] #[]), 1⟩).push ⟨.string ⟨#[119, 104, 105, 108, 101]⟩, (.func (.func 124) #[.pointer (some ⟨R, 0, none⟩)] #[]), 2⟩).push ⟨.string ⟨#[97, 115, 115, 101, 114, 116]⟩, (.func (.func 125) #[] #[.pointer (some ⟨w.heap.size, 0, none⟩)]), 3⟩).push ⟨.string ⟨#[97, 115, 115, 117, 109, 101]⟩, (.func (.func 127) #[] #[.pointer (some ⟨w.heap.size, 0, none⟩)]), 4⟩) (4 + 1))
  have B5 := setBlock_below9 B4 (by omega) (.map ((((((#[]).push ⟨.string ⟨#[110, 97, 109, 101]⟩, (.func (.func 122) #[.pointer (some ⟨R, 0, none⟩)] #[]), 0⟩).push ⟨.string ⟨#[105, 102]⟩, (.func (.func 123) #[.pointer (some ⟨R, 0, none⟩)] #[]), 1⟩).push ⟨.string ⟨#[119, 104, 105, 108, 101]⟩, (.func (.func 124) #[.pointer (some ⟨R, 0, none⟩)] #[]), 2⟩).push ⟨.string ⟨#[97, 115, 115, 101, 114, 116]⟩, (.func (.func 125) #[] #[.pointer (some ⟨w.heap.size, 0, none⟩)]), 3⟩).push ⟨.string ⟨#[97, 115, 115, 117, 109, 101]⟩, (.func (.func 127) #[] #[.pointer (some ⟨w.heap.size, 0, none⟩)]), 4⟩) (4 + 1)) (b := w.heap.size + 1)
  have hl : w.heap.size < V.heap.size := by omega
  exact ⟨_, _, _, _, _, r1, (B1.cell (p := ⟨w.heap.size, 0, none⟩) hl).trans hq, r2, (B2.cell (p := ⟨w.heap.size, 0, none⟩) hl).trans hq, r3, (B3.cell (p := ⟨w.heap.size, 0, none⟩) hl).trans hq, r4, (B4.cell (p := ⟨w.heap.size, 0, none⟩) hl).trans hq, r5, (B5.cell (p := ⟨w.heap.size, 0, none⟩) hl).trans hq, h5, by have := (Array.getElem?_eq_some_iff.1 h5).1; exact this, Below.chain BA B5⟩
set_option maxRecDepth 20000 in
set_option maxHeartbeats 4000000 in
theorem pstatementStarts (R : Nat) (w : World) :
    Calls Tryz.prog 93 #[.pointer (some ⟨R, 0, none⟩)] w fun e w' => e = .returned (.map (some (w.heap.size + 1))) ∧ w'.cell? ⟨w.heap.size, 0, none⟩ = some (.pointer (some ⟨R, 0, none⟩)) ∧ w'.heap[w.heap.size + 1]? = some (.map #[⟨.string ⟨#[110, 97, 109, 101]⟩, (.func (.func 122) #[.pointer (some ⟨R, 0, none⟩)] #[]), 0⟩, ⟨.string ⟨#[105, 102]⟩, (.func (.func 123) #[.pointer (some ⟨R, 0, none⟩)] #[]), 1⟩, ⟨.string ⟨#[119, 104, 105, 108, 101]⟩, (.func (.func 124) #[.pointer (some ⟨R, 0, none⟩)] #[]), 2⟩, ⟨.string ⟨#[97, 115, 115, 101, 114, 116]⟩, (.func (.func 125) #[] #[.pointer (some ⟨w.heap.size, 0, none⟩)]), 3⟩, ⟨.string ⟨#[97, 115, 115, 117, 109, 101]⟩, (.func (.func 127) #[] #[.pointer (some ⟨w.heap.size, 0, none⟩)]), 4⟩] 5) ∧ w.heap.size + 1 < w'.heap.size ∧ Below w.heap.size w w' := by
  obtain ⟨W1, W2, W3, W4, W5, r1, q1, r2, q2, r3, q3, r4, q4, r5, q5, hm, hl, hB⟩ := starts_runs R w
  have hmm := @run_makeMap Tryz.prog
  have q0 : ((w.alloc (Obj.cells #[.pointer (some ⟨R, 0, none⟩)] 64)).alloc (.map #[] 0)).cell? ⟨w.heap.size, 0, none⟩ = some (.pointer (some ⟨R, 0, none⟩)) := by go_cell
  have HB := Lib.hid hB; have HM := Lib.hid hm; have HL := Lib.hid hl; have HQ := Lib.hid q5
  clear hB hm hl
  go_enter Tryz.func93, Tryz.ntmps93
  go_wp2
  go_ret
  exact ⟨rfl, HQ.out, HM.out, HL.out, HB.out⟩
theorem opsAt.kept {R : Nat} {W W' : World} {l : List ByteArray} {v : Value} (h : opsAt R W l v) (hb : Kept (· ≠ R) W W') : opsAt R W' l v := by
  refine h.imp_right ?_
  rintro ⟨b, e, h1, h2, h3⟩
  exact ⟨b, e, h1, Nat.lt_of_lt_of_le h2 hb.size, fun j hj => (hb.cell (p := ⟨b, j, none⟩) h1 h2).trans (h3 j hj)⟩
theorem Kept.of_below {A : Nat → Prop} {W W' : World} (h : Below W.heap.size W W') : Kept A W W' := ⟨h.size, fun k _ hk => h.block k hk⟩
theorem Kept.trans {A : Nat → Prop} {a b c : World} (h : Kept A a b) (k : Kept A b c) : Kept A a c := ⟨Nat.le_trans h.size k.size, fun i hi hl => (k.block i hi (Nat.lt_of_lt_of_le hl h.size)).trans (h.block i hi hl)⟩
def EvAt (W : World) : Prop := ∀ k, k = 2 ∨ k = 3 → k < W.heap.size ∧ ∃ ev, W.cell? ⟨k, 0, none⟩ = some ev ∧ (ev = .nilIface ∨ ∃ te pe, ev = .iface te pe)
set_option maxRecDepth 20000 in
set_option maxHeartbeats 4000000 in
theorem pnewReader (L : List Tk) (ao : Option Addr) (n c : Nat) (w : World) (hn : n = L.length) (hr : TRow w ao c L) (hL : TkL L) (ht : Lib.TabBelow Tryz.prog w.heap.size w "surveyor/lexer.classes" .u8 clsTab) (hev : EvAt w) :
    Calls Tryz.prog 54 #[.slice ao n c] w fun e w' => e = .returned (.pointer (some ⟨w.heap.size, 0, none⟩)) ∧ At w.heap.size L w' 0 (.ok L) ∧ Below w.heap.size w w' := by
  have hA : Below w.heap.size w (w.alloc (Obj.cells #[.slice ao n c, .int .i64 0, .int .i64 0, .int .i64 0, .int .i64 0, .slice none 0 0, .map none] 85)) := (Below.refl _ _).alloc (Nat.le_refl _) _
  have hs : w.heap.size < (w.alloc (Obj.cells #[.slice ao n c, .int .i64 0, .int .i64 0, .int .i64 0, .int .i64 0, .slice none 0 0, .map none] 85)).heap.size := by simp
  have c0 : (w.alloc (Obj.cells #[.slice ao n c, .int .i64 0, .int .i64 0, .int .i64 0, .int .i64 0, .slice none 0 0, .map none] 85)).cell? ⟨w.heap.size, 0, none⟩ = some (.slice ao n c) := alloc_new _ _ _ _ rfl _ _ rfl
  have c1 : (w.alloc (Obj.cells #[.slice ao n c, .int .i64 0, .int .i64 0, .int .i64 0, .int .i64 0, .slice none 0 0, .map none] 85)).cell? ⟨w.heap.size, 1, none⟩ = some (.int .i64 0) := alloc_new _ _ _ _ rfl _ _ rfl
  have c2 : (w.alloc (Obj.cells #[.slice ao n c, .int .i64 0, .int .i64 0, .int .i64 0, .int .i64 0, .slice none 0 0, .map none] 85)).cell? ⟨w.heap.size, 2, none⟩ = some (.int .i64 0) := alloc_new _ _ _ _ rfl _ _ rfl
  have c3 : (w.alloc (Obj.cells #[.slice ao n c, .int .i64 0, .int .i64 0, .int .i64 0, .int .i64 0, .slice none 0 0, .map none] 85)).cell? ⟨w.heap.size, 3, none⟩ = some (.int .i64 0) := alloc_new _ _ _ _ rfl _ _ rfl
  have c4 : (w.alloc (Obj.cells #[.slice ao n c, .int .i64 0, .int .i64 0, .int .i64 0, .int .i64 0, .slice none 0 0, .map none] 85)).cell? ⟨w.heap.size, 4, none⟩ = some (.int .i64 0) := alloc_new _ _ _ _ rfl _ _ rfl
  have c5 : (w.alloc (Obj.cells #[.slice ao n c, .int .i64 0, .int .i64 0, .int .i64 0, .int .i64 0, .slice none 0 0, .map none] 85)).cell? ⟨w.heap.size, 5, none⟩ = some (.slice none 0 0) := alloc_new _ _ _ _ rfl _ _ rfl
  have c6 : (w.alloc (Obj.cells #[.slice ao n c, .int .i64 0, .int .i64 0, .int .i64 0, .int .i64 0, .slice none 0 0, .map none] 85)).cell? ⟨w.heap.size, 6, none⟩ = some (.map none) := alloc_new _ _ _ _ rfl _ _ rfl
  have hf : ∀ j, (w.alloc (Obj.cells #[.slice ao n c, .int .i64 0, .int .i64 0, .int .i64 0, .int .i64 0, .slice none 0 0, .map none] 85)).frozen? ⟨w.heap.size, j, none⟩ = false := fun j => World.frozen?_alloc_new _ _ _ _
  have HA := Lib.hid hA; have HS := Lib.hid hs
  have HC := Lib.hid (And.intro c0 (And.intro c1 (And.intro c2 (And.intro c3 (And.intro c4 (And.intro c5 (And.intro c6 hf)))))))
  have HR := Lib.hid hr; have HL := Lib.hid hL; have HT := Lib.hid ht; have HEV := Lib.hid hev; have HN := Lib.hid hn
  clear hA hs c0 c1 c2 c3 c4 c5 c6 hf hr hL ht hev hn
  go_enter Tryz.func54, Tryz.ntmps54
  go_wp2_with (go_at_call 92; refine (poperatorLevels w.heap.size _ HS.out).mono ?_; rintro e w2 ⟨b, rfl, hbR, hbl, hlv, hb2⟩; refine Hid.out ?_)
  obtain ⟨c0, c1, c2, c3, c4, c5, c6, hf⟩ := HC.out
  have f5 : w2.frozen? ⟨w.heap.size, 5, none⟩ = false := (hb2.frozen (p := ⟨w.heap.size, 5, none⟩) HS.out).trans (hf 5)
  have f6 : w2.frozen? ⟨w.heap.size, 6, none⟩ = false := (hb2.frozen (p := ⟨w.heap.size, 6, none⟩) HS.out).trans (hf 6)
  have y5 : w2.cell? ⟨w.heap.size, 5, none⟩ = some (.slice none 0 0) := (hb2.cell (p := ⟨w.heap.size, 5, none⟩) HS.out).trans c5
  have H2 := Lib.hid hb2; have HB := Lib.hid (And.intro hbR (And.intro hbl hlv)); have HF := Lib.hid f6
  clear c0 c1 c2 c3 c4 c5 c6 hf hbR hbl hlv hb2 f6
  refine Lib.hid ?_
  go_wp2_with (go_at_call 93; refine (pstatementStarts w.heap.size _).mono ?_; rintro e w3 ⟨rfl, hq, hm, hml, hb3⟩; refine Hid.out ?_)
  have hs2 : w.heap.size < w2.heap.size := Nat.lt_of_lt_of_le HS.out H2.out.size
  have hz : (w2.setCell ⟨w.heap.size, 5, none⟩ (.slice (some ⟨b, 0, none⟩) 8 8)).heap.size = w2.heap.size := by simp
  rw [hz] at hq hm hml
  have hs3 : w.heap.size < (w2.setCell ⟨w.heap.size, 5, none⟩ (.slice (some ⟨b, 0, none⟩) 8 8)).heap.size := by rw [hz]; exact hs2
  have f6 : w3.frozen? ⟨w.heap.size, 6, none⟩ = false := (hb3.frozen (p := ⟨w.heap.size, 6, none⟩) hs3).trans ((World.frozen?_setCell _ _ _ _).trans HF.out)
  have o2 : ∀ j : Nat, j ≠ 5 → (w2.setCell ⟨w.heap.size, 5, none⟩ (.slice (some ⟨b, 0, none⟩) 8 8)).cell? ⟨w.heap.size, j, none⟩ = w2.cell? ⟨w.heap.size, j, none⟩ := fun j hj => World.cell?_setCell_other w2 ⟨w.heap.size, 5, none⟩ ⟨w.heap.size, j, none⟩ _ (fun e => hj (by cases e; rfl))
  have s5 : (w2.setCell ⟨w.heap.size, 5, none⟩ (.slice (some ⟨b, 0, none⟩) 8 8)).cell? ⟨w.heap.size, 5, none⟩ = some (.slice (some ⟨b, 0, none⟩) 8 8) := cellSet y5 _
  have k2 : Kept (· ≠ w.heap.size) w2 (w2.setCell ⟨w.heap.size, 5, none⟩ (.slice (some ⟨b, 0, none⟩) 8 8)) := (Kept.refl _ w2).setCell ⟨w.heap.size, 5, none⟩ (fun h => h rfl) _
  obtain ⟨c0, c1, c2, c3, c4, c5, c6, hf⟩ := HC.out
  have g : ∀ j v, j ≠ 5 → (w.alloc (Obj.cells #[.slice ao n c, .int .i64 0, .int .i64 0, .int .i64 0, .int .i64 0, .slice none 0 0, .map none] 85)).cell? ⟨w.heap.size, j, none⟩ = some v → w3.cell? ⟨w.heap.size, j, none⟩ = some v := fun j v hj h => (hb3.cell (p := ⟨w.heap.size, j, none⟩) hs3).trans ((o2 j hj).trans ((H2.out.cell (p := ⟨w.heap.size, j, none⟩) HS.out).trans h))
  have x6 := g 6 _ (by decide) c6
  have G := Lib.hid (And.intro (g 0 _ (by decide) c0) (And.intro (g 1 _ (by decide) c1) (And.intro (g 2 _ (by decide) c2) (And.intro (g 3 _ (by decide) c3) (g 4 _ (by decide) c4)))))
  have G5 := Lib.hid ((hb3.cell (p := ⟨w.heap.size, 5, none⟩) hs3).trans s5)
  have GF : Hid (∀ j, w3.frozen? ⟨w.heap.size, j, none⟩ = false) := Lib.hid (fun j => (hb3.frozen (p := ⟨w.heap.size, j, none⟩) hs3).trans ((World.frozen?_setCell _ _ _ _).trans ((H2.out.frozen (p := ⟨w.heap.size, j, none⟩) HS.out).trans (hf j))))
  have K3 := Lib.hid (k2.trans (Kept.of_below hb3)); have HQ := Lib.hid hq; have HM := Lib.hid hm; have HML := Lib.hid hml; have HS2 := Lib.hid hs2
  have HBW : Hid (Below w.heap.size w w3) := Lib.hid ⟨hb3.os.trans (H2.out.os.trans HA.out.os), hb3.tape.trans (H2.out.tape.trans HA.out.tape), hb3.output.trans (H2.out.output.trans HA.out.output), by have := hb3.size; have := H2.out.size; have := HS.out; omega, fun k hk => by
    have h9 := H2.out.size
    have h8 := HS.out
    exact (hb3.block k (by omega)).trans ((k2.block k (Nat.ne_of_lt hk) (by omega)).trans ((H2.out.block k (by omega)).trans (HA.out.block k hk)))⟩
  clear c0 c1 c2 c3 c4 c5 c6 hf o2 s5 k2 g hq hm hml hb3 hs2 hs3 hz y5 f5
  refine Lib.hid ?_
  go_wp2
  go_ret
  have x6' := x6
  have o3 : ∀ j : Nat, j ≠ 6 → (w3.setCell ⟨w.heap.size, 6, none⟩ (.map (some (w2.heap.size + 1)))).cell? ⟨w.heap.size, j, none⟩ = w3.cell? ⟨w.heap.size, j, none⟩ := fun j hj => World.cell?_setCell_other w3 ⟨w.heap.size, 6, none⟩ ⟨w.heap.size, j, none⟩ _ (fun e => hj (by cases e; rfl))
  have s6 : (w3.setCell ⟨w.heap.size, 6, none⟩ (.map (some (w2.heap.size + 1)))).cell? ⟨w.heap.size, 6, none⟩ = some (.map (some (w2.heap.size + 1))) := cellSet x6' _
  have k3 : Kept (· ≠ w.heap.size) w3 (w3.setCell ⟨w.heap.size, 6, none⟩ (.map (some (w2.heap.size + 1)))) := (Kept.refl _ w3).setCell ⟨w.heap.size, 6, none⟩ (fun h => h rfl) _
  have k2 := K3.out.trans k3
  have hbf : Below w.heap.size w (w3.setCell ⟨w.heap.size, 6, none⟩ (.map (some (w2.heap.size + 1)))) := ⟨HBW.out.os, HBW.out.tape, HBW.out.output, Nat.le_trans HBW.out.size k3.size, fun k hk => (k3.block k (Nat.ne_of_lt hk) (Nat.lt_of_lt_of_le hk HBW.out.size)).trans (HBW.out.block k hk)⟩
  have hfr : ∀ j, (w3.setCell ⟨w.heap.size, 6, none⟩ (.map (some (w2.heap.size + 1)))).frozen? ⟨w.heap.size, j, none⟩ = false := fun j => (World.frozen?_setCell _ _ _ _).trans (GF.out j)
  have hls : w.heap.size < (w3.setCell ⟨w.heap.size, 6, none⟩ (.map (some (w2.heap.size + 1)))).heap.size := Nat.lt_of_lt_of_le (Nat.lt_of_lt_of_le HS2.out K3.out.size) k3.size
  obtain ⟨g0, g1, g2, g3, g4⟩ := G.out
  obtain ⟨hbR, hbl, hlv⟩ := HB.out
  obtain ⟨bb, oo, hao, hbb, hcells⟩ := HR.out.2.2.resolve_left HL.out.pos
  have hn := HN.out
  refine ⟨rfl, ⟨⟨HL.out, hls, ?_, ?_, ?_, ?_⟩, ?_⟩, hbf⟩
  · exact fun W hW => HT.out W (hbf.trans hW)
  · intro k hk
    obtain ⟨e1, ev, e2, e3⟩ := HEV.out k hk
    exact ⟨Nat.ne_of_lt e1, Nat.lt_trans e1 hls, ev, (hbf.cell (p := ⟨k, 0, none⟩) e1).trans e2, e3⟩
  · refine ⟨b, (o3 5 (by decide)).trans G5.out, hbR, Nat.lt_of_lt_of_le hbl k2.size, fun i hi => ?_⟩
    obtain ⟨e1, v, e2, e3⟩ := hlv i hi
    exact ⟨(k2.cell (p := ⟨b, 2 * i, none⟩) hbR hbl).trans e1, v, (k2.cell (p := ⟨b, 2 * i + 1, none⟩) hbR hbl).trans e2, e3.kept k2⟩
  · have hq1 : w2.heap.size ≠ w.heap.size := Nat.ne_of_gt HS2.out
    have hq2 : w2.heap.size + 1 ≠ w.heap.size := by have := HS2.out; omega
    refine ⟨w2.heap.size + 1, _, 5, s6, hq2, Nat.lt_of_lt_of_le HML.out k3.size, (k3.block _ hq2 HML.out).trans HM.out, 0, 1, 2, 3, 4, w2.heap.size, hq1, Nat.lt_of_lt_of_le (Nat.lt_of_succ_lt HML.out) k3.size, (k3.cell (p := ⟨w2.heap.size, 0, none⟩) hq1 (Nat.lt_of_succ_lt HML.out)).trans HQ.out, rfl⟩
  · refine ⟨0, 0, 0, List.length_pos_iff.mpr HL.out.pos, ⟨⟨bb, oo, c, ?_, ?_, Nat.ne_of_lt hbb, Nat.lt_trans hbb hls⟩, (o3 1 (by decide)).trans g1, (o3 2 (by decide)).trans g2, (o3 3 (by decide)).trans g3, (o3 4 (by decide)).trans g4, hls, hfr, HL.out.pos⟩, .inl ⟨rfl, rfl, by rw [List.drop_zero]⟩⟩
    · rw [← hao, ← hn]
      exact (o3 0 (by decide)).trans g0
    · rw [← hao]
      exact HR.out.keep hbf
end Go.Proofs.YtdibcllakkjegaaGreatDoor

namespace Go.Proofs.YtdibcllakkjegaaGreatDoor
open Go Go.Proofs Go.RowKit
theorem lexOwn : ownKnob Tryz.prog.godebug = none := by kernel_rfl
theorem gCls : Tryz.prog.globalNamed "surveyor/lexer.classes" = some 0 := by kernel_rfl
theorem gClsType : (Tryz.prog.globals[0]?).map (·.type) = some 113 := by kernel_rfl
theorem gRange : Tryz.prog.globalNamed "strconv.ErrRange" = some 3 := by kernel_rfl
theorem gRangeType : (Tryz.prog.globals[3]?).map (·.type) = some 49 := by kernel_rfl
theorem gSyntax : Tryz.prog.globalNamed "strconv.ErrSyntax" = some 2 := by kernel_rfl
theorem gSyntaxType : (Tryz.prog.globals[2]?).map (·.type) = some 49 := by kernel_rfl
theorem errRow (u : TypeId) (h : Tryz.prog.typeName? 3 u = some "*errors.errorString") : u = 148 := by
  have star : "*" ++ "errors.errorString" = "*errors.errorString" := by decide
  exact typeName_ptr_named (nm := "errors.errorString") (by rw [star]; kernel_rfl) (by kernel_rfl) (by decide) u (by rw [star]; exact h)
theorem errCells : Tryz.prog.cellsOf 150 = 1 := by kernel_rfl
theorem strCells : Tryz.prog.cellsOf 9 = 1 := by kernel_rfl
def laidPar : List (String × DataW Unit) := [("math/bits.deBruijn32tab", Rows.laid_math_bits_deBruijn32tab), ("math/bits.deBruijn64tab", Rows.laid_math_bits_deBruijn64tab), ("internal/strconv.uint64pow10", Rows.laid_internal_strconv_uint64pow10), ("strconv.ErrRange", Rows.laid_strconv_ErrRange), ("strconv.ErrSyntax", Rows.laid_strconv_ErrSyntax), ("surveyor/lexer.classes", Rows.laid_surveyor_lexer_classes)]
set_option maxRecDepth 100000 in
theorem par_of_laid {W : World} (h : laidMetH Tryz.prog laidPar W) : Lib.TabIs Tryz.prog W "surveyor/lexer.classes" .u8 clsTab ∧ EvAt W := by
  rw [MakeChecks.laidMetH_plain _ _ _ (by kernel_rfl)] at h
  have h4 : laidMet Tryz.prog [("strconv.ErrRange", Rows.laid_strconv_ErrRange), ("strconv.ErrSyntax", Rows.laid_strconv_ErrSyntax), ("surveyor/lexer.classes", Rows.laid_surveyor_lexer_classes)] W := h.tail.tail.tail
  have h5 : laidMet Tryz.prog [("strconv.ErrSyntax", Rows.laid_strconv_ErrSyntax), ("surveyor/lexer.classes", Rows.laid_surveyor_lexer_classes)] W := h4.tail
  have h6 : laidMet Tryz.prog [("surveyor/lexer.classes", Rows.laid_surveyor_lexer_classes)] W := h5.tail
  obtain ⟨a1, s1, hv1, -⟩ := laid_sentinel h4 gRange gRangeType Tryz.underlying49 errRow Tryz.underlying148 Tryz.underlying150 rfl rfl Tryz.underlying9 errCells strCells
  obtain ⟨a2, s2, hv2, -⟩ := laid_sentinel h5 gSyntax gSyntaxType Tryz.underlying49 errRow Tryz.underlying148 Tryz.underlying150 rfl rfl Tryz.underlying9 errCells strCells
  have c1 : W.cell? ⟨3, 0, none⟩ = some (.iface 148 (.pointer (some a1))) := by simpa using World.var?_cell gRange hv1 0
  have c2 : W.cell? ⟨2, 0, none⟩ = some (.iface 148 (.pointer (some a2))) := by simpa using World.var?_cell gSyntax hv2 0
  have lt : ∀ (k : Nat) (v : Value), W.cell? ⟨k, 0, none⟩ = some v → k < W.heap.size := fun k v e => by
    rcases Nat.lt_or_ge k W.heap.size with q | q
    · exact q
    · simp [World.cell?, Array.getElem?_eq_none q] at e
  refine ⟨Lib.tabIs_of_head gCls gClsType Tryz.underlying113 Tryz.underlying5 (by kernel_rfl) (by kernel_rfl) h6, fun k hk => ?_⟩
  rcases hk with rfl | rfl
  · exact ⟨lt _ _ c2, _, c2, .inr ⟨_, _, rfl⟩⟩
  · exact ⟨lt _ _ c1, _, c1, .inr ⟨_, _, rfl⟩⟩
set_option maxRecDepth 100000 in
theorem parDoor (os : Os) (args : Array Value) : laidMetH Tryz.prog laidPar ((World.laidAll Tryz.prog os laidPar).forCall (fun _ _ => 0) ⟨#[], args, []⟩).memory := by
  rw [MakeChecks.laidMetH_plain _ _ _ (by kernel_rfl)]
  exact laidMet_laidAll _ (by kernel_rfl) (by kernel_rfl)
theorem shaped_lift {H : Type} {enc : TypeId × Value → H} {a : Assume} {C : Checked} {os : Os} {f : FuncId} {fn : Func} {s : ChangeSpec} {conds : List PathCond} {apart fresh handsOn again : Bool} {X : World → Array Value → Prop}
    (hX : ∀ (v v' : World) (args : Array Value), v.heap = v'.heap → X v args → X v' args)
    (hown : ownKnob C.prog.godebug = none) (started : os.Started) (noInit : C.prog.inits.idxOf? f = none) (hfn : C.prog.funcs[f]? = some fn)
    (witness : ∃ (v : World) (tape : Tape) (i : Input), v.os = os ∧ (v.forCall tape i).Shaped C.prog ∧ i.vars = [] ∧ Input.okWide C.prog (v.forCall tape i) .any v.heap.size f i ∧
      ((s.pre enc C.prog fn conds apart (v.forCall tape i).memory i.args ∧ X (v.forCall tape i).memory i.args) ∧ sizedMet enc C.prog fn (OpenSpec.ofChange s) apart (v.forCall tape i).memory i.args) ∧ a.holds C.prog (lone (Frame.enter C.prog f i.args .normal) [] (v.forCall tape i)))
    (contract : ∀ (W : World) (base : Nat) (args : Array Value) (ds gs : List (DataW H)) (before : List MemPlace),
      (∀ (j : Nat) t v, fn.params[j]? = some t → args[j]? = some v → Value.okWide C.prog W .any base t v) →
      DataW.Whole enc C.prog fn.params.toList s.vars apart W args.toList ds gs before → X W args → W.ShapedOpen C.prog →
      Calls C.prog f args W fun e W' => ∃ v, e = .returned v ∧ s.post enc C.prog fn apart fresh handsOn again W args v W') :
    ReturnsInHanded a C os f .any (fun v args => (s.pre enc C.prog fn conds apart v args ∧ X v args) ∧ sizedMet enc C.prog fn (OpenSpec.ofChange s) apart v args) (s.post enc C.prog fn apart fresh handsOn again) := by
  refine returnsInHanded_of_calls hown started noInit witness ?_
  intro v tape i _ hsh _ hin hpre _
  obtain ⟨_, _, _, g, hg, _, _, _, _, hval⟩ := hin
  obtain rfl : g = fn := Option.some.inj (hg.symm.trans hfn)
  obtain ⟨⟨⟨ds, gs, before, hw, -⟩, hx⟩, -⟩ := hpre
  refine (contract (v.forCall tape i) v.heap.size i.args ds gs before hval (DataW.Whole.of_heap (by rfl) hw) (hX _ _ _ (by rfl) hx) hsh).mono fun e W' ⟨r, he, hq⟩ => ?_
  subst he
  exact ChangeSpec.post_blind hq
end Go.Proofs.YtdibcllakkjegaaGreatDoor
