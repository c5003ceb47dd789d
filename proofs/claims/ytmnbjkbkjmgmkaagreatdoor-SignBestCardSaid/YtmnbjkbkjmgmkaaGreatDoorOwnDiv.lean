import Derived.RegionTactic
import Derived.Deep.RegionWith
import Derived.StillTailTactics
import Derived.ChangeAlike
import Derived.Test.YtmnbjkbkjmgmkaaGreatDoorCut9

set_option linter.unusedVariables false
set_option linter.unusedSimpArgs false
set_option linter.unusedVariables false
namespace Go.Proofs.YtmnbjkbkjmgmkaaGreatDoor
open Go Go.Proofs Go.RowKit
structure Four (w W : World) (v1 v2 v3 v4 : Value) : Prop where
  lt : w.heap.size + 1 + 1 + 1 < W.heap.size
  c1 : W.cell? ⟨w.heap.size, 0, none⟩ = some v1
  c2 : W.cell? ⟨w.heap.size + 1, 0, none⟩ = some v2
  c3 : W.cell? ⟨w.heap.size + 1 + 1, 0, none⟩ = some v3
  c4 : W.cell? ⟨w.heap.size + 1 + 1 + 1, 0, none⟩ = some v4
  f3 : W.frozen? ⟨w.heap.size + 1 + 1, 0, none⟩ = false
  f4 : W.frozen? ⟨w.heap.size + 1 + 1 + 1, 0, none⟩ = false
  below : Below w.heap.size w W
theorem four_new (w : World) (v1 v2 v3 v4 : Value) (t1 t2 t3 t4 : TypeId) : Four w ((((w.alloc (Obj.cells #[v1] t1)).alloc (Obj.cells #[v2] t2)).alloc (Obj.cells #[v3] t3)).alloc (Obj.cells #[v4] t4)) v1 v2 v3 v4 :=
  ⟨by simp, by go_cell, by go_cell, by go_cell, by go_cell, by go_cell, by go_cell, by go_grown⟩
theorem Four.mono {w W W' : World} {v1 v2 v3 v4 : Value} (h : Four w W v1 v2 v3 v4) (k : Below W.heap.size W W') : Four w W' v1 v2 v3 v4 := by
  have hl := h.lt
  exact ⟨Nat.lt_of_lt_of_le h.lt k.size, (k.cell (p := ⟨w.heap.size, 0, none⟩) (by simp; omega)).trans h.c1, (k.cell (p := ⟨w.heap.size + 1, 0, none⟩) (by simp; omega)).trans h.c2, (k.cell (p := ⟨w.heap.size + 1 + 1, 0, none⟩) (by simp; omega)).trans h.c3, (k.cell (p := ⟨w.heap.size + 1 + 1 + 1, 0, none⟩) (by simp; omega)).trans h.c4,
    (k.frozen (p := ⟨w.heap.size + 1 + 1, 0, none⟩) (by simp; omega)).trans h.f3, (k.frozen (p := ⟨w.heap.size + 1 + 1 + 1, 0, none⟩) (by simp; omega)).trans h.f4, Below.chain h.below k⟩
theorem Four.drew {w W : World} {v1 v2 v3 v4 : Value} (h : Four w W v1 v2 v3 v4) : Four w W.drew v1 v2 v3 v4 := h.mono ((Below.refl _ _).drew)
theorem Four.both {w W : World} {v1 v2 v3 v4 : Value} (h : Four w W v1 v2 v3 v4) (u3 u4 : Value) : Four w ((W.setCell ⟨w.heap.size + 1 + 1, 0, none⟩ u3).setCell ⟨w.heap.size + 1 + 1 + 1, 0, none⟩ u4) v1 v2 u3 u4 := by
  have hl := h.lt
  refine ⟨by simpa [World.setCell] using hl, ?_, ?_, ?_, ?_, ?_, ?_, ?_⟩
  · rw [World.cell?_setCell_other (h := by simp), World.cell?_setCell_other (h := by simp)]; exact h.c1
  · rw [World.cell?_setCell_other (h := by simp), World.cell?_setCell_other (h := by simp)]; exact h.c2
  · rw [World.cell?_setCell_other (h := by simp)]; exact cellSet h.c3 _
  · exact cellSet (u := v4) (by rw [World.cell?_setCell_other (h := by simp)]; exact h.c4) _
  · rw [World.frozen?_setCell, World.frozen?_setCell]; exact h.f3
  · rw [World.frozen?_setCell, World.frozen?_setCell]; exact h.f4
  · exact (h.below.setCell (p := ⟨w.heap.size + 1 + 1, 0, none⟩) (by simp; omega) _).setCell (p := ⟨w.heap.size + 1 + 1 + 1, 0, none⟩) (by simp; omega) _
theorem RowAt.four {w W : World} {v1 v2 : Value} {x3 x4 : Option Addr} {n3 n4 m3 m4 : Nat} (h : Four w W v1 v2 (.slice x3 n3 m3) (.slice x4 n4 m4)) (u3 u4 : Value) {ao : Option Addr} {c : Nat} {l : List Nat} (hr : RowAt W ao c l) :
    RowAt ((W.setCell ⟨w.heap.size + 1 + 1, 0, none⟩ u3).setCell ⟨w.heap.size + 1 + 1 + 1, 0, none⟩ u4) ao c l :=
  (hr.box h.c3 u3).box (p := ⟨w.heap.size + 1 + 1 + 1, 0, none⟩) (by rw [World.cell?_setCell_other (h := by simp)]; exact h.c4) u4
theorem numAt_zero (w : World) : NumAt w (.agg #[.slice none 0 0]) 0 :=
  ⟨none, 0, by rw [limbs_zero]; rfl, by rw [limbs_zero]; exact ⟨Nat.le_refl _, by decide, .inl ⟨rfl, fun _ => rfl⟩⟩⟩
set_option maxHeartbeats 4000000 in
theorem div_small (x y : Nat) (vx vy : Value) (w : World) (hx : NumAt w vx x) (hy : NumAt w vy y) (hs : y = 0 ∨ x < y) :
    Calls Tryz.prog 72 #[vx, vy] w fun e w' => ∃ v2, e = .returned (.tuple #[.agg #[.slice none 0 0], v2]) ∧ NumAt w' v2 x ∧ Below w.heap.size w w' := by
  have C0 : ∀ W : World, Below w.heap.size w W → Calls Tryz.prog 90 #[vy] W fun e w' => e = .returned (.bool (decide (y = 0))) ∧ Below W.heap.size W w' := fun W hW => isZero_any y vy W (hy.mono hW)
  have C1 : ∃ r : Int, (y ≠ 0 → decide (r < 0) = true) ∧ ∀ W : World, Below w.heap.size w W → Calls Tryz.prog 91 #[vx, vy] W fun e w' => e = .returned (.int .i64 r) ∧ Below W.heap.size W w' :=
    ⟨cmpN x y, fun h => by unfold cmpN; rw [if_pos (by omega)]; decide, fun W hW => compare_any x y vx vy W (hx.mono hW) (hy.mono hW)⟩
  obtain ⟨r, hr, C1⟩ := C1
  obtain ⟨ao, c, rfl, hx⟩ := hx
  obtain ⟨ap, d, rfl, hy⟩ := hy
  have HX := Lib.hid hx; have HC0 := Lib.hid C0; have HC1 := Lib.hid C1; have HR := Lib.hid hr
  generalize hn : (limbs x).length = n at *
  generalize hm : (limbs y).length = m at *
  have HN := Lib.hid hn
  clear hx hy C0 C1 hr hn hm
  by_cases hy0 : y = 0
  · have hd : decide (y = 0) = true := by simp [hy0]
    rw [hd] at HC0
    clear hs hd
    go_enter Tryz.func72, Tryz.ntmps72
    go_wp2_with fail
    have A := four_new w (Value.slice ao n c) (Value.slice ap m d) (Value.slice none 0 0) (Value.slice none 0 0) 71 71 71 71
    generalize (((w.alloc (Obj.cells #[Value.slice ao n c] 71)).alloc (Obj.cells #[Value.slice ap m d] 71)).alloc (Obj.cells #[Value.slice none 0 0] 71)).alloc (Obj.cells #[Value.slice none 0 0] 71) = V0 at A ⊢
    refine (HC0.out V0 A.below).mono ?_
    rintro e w1 ⟨rfl, hb1⟩
    have B := A.mono hb1
    have k1 := B.c1; have k2 := B.c2; have k3 := B.c3; have k4 := B.c4; have g3 := B.f3; have g4 := B.f4
    clear A hb1
    go_wp2_with fail
    go_region
    all_goals go_wp2
    have B5 := (B.both (Value.slice none 0 0) (Value.slice ao n c)).drew
    refine bodyPost_ret (v := .tuple #[.agg #[.slice none 0 0], .agg #[.slice ao n c]]) (by simp [results, Tryz.results72, go_sem, (B.both (Value.slice none 0 0) (Value.slice ao n c)).c3, (B.both (Value.slice none 0 0) (Value.slice ao n c)).c4]) rfl ?_
    exact ⟨_, rfl, ⟨ao, c, by rw [HN.out], (RowAt.four B _ _ (HX.out.mono B.below)).mono ((Below.refl _ _).drew)⟩, B5.below⟩
  · have hd : decide (y = 0) = false := by simp [hy0]
    rw [hd] at HC0
    have hrr := HR.out hy0
    clear hs hd
    go_enter Tryz.func72, Tryz.ntmps72
    go_wp2_with fail
    have A := four_new w (Value.slice ao n c) (Value.slice ap m d) (Value.slice none 0 0) (Value.slice none 0 0) 71 71 71 71
    generalize (((w.alloc (Obj.cells #[Value.slice ao n c] 71)).alloc (Obj.cells #[Value.slice ap m d] 71)).alloc (Obj.cells #[Value.slice none 0 0] 71)).alloc (Obj.cells #[Value.slice none 0 0] 71) = V0 at A ⊢
    refine (HC0.out V0 A.below).mono ?_
    rintro e w1 ⟨rfl, hb1⟩
    have B0 := A.mono hb1
    have k1 := B0.c1; have k2 := B0.c2; have k3 := B0.c3; have k4 := B0.c4; have g3 := B0.f3; have g4 := B0.f4
    clear A hb1
    go_wp2_with fail
    refine (HC1.out w1 B0.below).mono ?_
    rintro e w2 ⟨rfl, hb2⟩
    have B := B0.mono hb2
    clear k1 k2 k3 k4 g3 g4 hb2
    have k1 := B.c1; have k2 := B.c2; have k3 := B.c3; have k4 := B.c4; have g3 := B.f3; have g4 := B.f4
    go_wp2_with fail
    go_region
    all_goals go_wp2
    have B5 := (B.both (Value.slice none 0 0) (Value.slice ao n c)).drew
    refine bodyPost_ret (v := .tuple #[.agg #[.slice none 0 0], .agg #[.slice ao n c]]) (by simp [results, Tryz.results72, go_sem, (B.both (Value.slice none 0 0) (Value.slice ao n c)).c3, (B.both (Value.slice none 0 0) (Value.slice ao n c)).c4]) rfl ?_
    exact ⟨_, rfl, ⟨ao, c, by rw [HN.out], (RowAt.four B _ _ (HX.out.mono B.below)).mono ((Below.refl _ _).drew)⟩, B5.below⟩
theorem u64_mod (a y : Nat) (h0 : 0 < y) (h1 : y < 1000000000) : IntKind.u64.wrap ((a : Int) % (y : Int)) = ((a % y : Nat) : Int) := by
  rw [← Int.natCast_emod, IntKind.wrap_u64]
  have := Nat.mod_lt a h0
  omega
set_option maxHeartbeats 4000000 in
theorem div_one (x y : Nat) (vx vy : Value) (w : World) (hx : NumAt w vx x) (hy : NumAt w vy y) (hle : ¬ x < y) (hl : (limbs y).length = 1) (hbig : (limbs x).length ≤ 100000000000) :
    Calls Tryz.prog 72 #[vx, vy] w (Divided x y w) := by
  have hy0 : y ≠ 0 := by intro h; rw [h, limbs_zero] at hl; simp at hl
  have hyB : y < 1000000000 := by have := lt_pow_limbs y; rwa [hl, Nat.pow_one] at this
  have hly : limbs y = [y] := by rw [limbs_pos hy0, Nat.mod_eq_of_lt hyB, Nat.div_eq_of_lt hyB, limbs_zero]
  have C0 : ∀ W : World, Below w.heap.size w W → Calls Tryz.prog 90 #[vy] W fun e w' => e = .returned (.bool false) ∧ Below W.heap.size W w' := fun W hW => by
    have := isZero_any y vy W (hy.mono hW)
    rwa [show decide (y = 0) = false from by simp [hy0]] at this
  have C1 : ∃ r : Int, decide (r < 0) = false ∧ ∀ W : World, Below w.heap.size w W → Calls Tryz.prog 91 #[vx, vy] W fun e w' => e = .returned (.int .i64 r) ∧ Below W.heap.size W w' :=
    ⟨cmpN x y, by (unfold cmpN; rw [if_neg hle]; split <;> decide), fun W hW => compare_any x y vx vy W (hx.mono hW) (hy.mono hW)⟩
  obtain ⟨r, hr, C1⟩ := C1
  obtain ⟨ao, c, rfl, hx⟩ := hx
  obtain ⟨ap, d, rfl, hy⟩ := hy
  rw [hly] at hy C0 C1 ⊢
  simp only [List.length_singleton] at C0 C1 ⊢
  obtain ⟨by_, oy, rfl⟩ := hy.addr (by simp)
  have cy := hy.get 0 (by simp)
  simp only [Nat.add_zero, List.getD_cons_zero] at cy
  have hbl := hy.block (by simp)
  have hsx := limbs_small x; have hvx := val_limbs x
  generalize limbs x = X at *
  generalize hn : X.length = n at *
  have HX := Lib.hid hx; have HC0 := Lib.hid C0; have HC1 := Lib.hid C1; have HN := Lib.hid hn; have HSX := Lib.hid hsx; have HVX := Lib.hid hvx
  have hyp : 0 < y := by omega
  clear hx hy C0 C1 hn hsx hvx hle hl hly hy0
  go_enter Tryz.func72, Tryz.ntmps72
  go_wp2_with fail
  have A := four_new w (Value.slice ao n c) (Value.slice (some { block := by_, off := oy }) 1 d) (Value.slice none 0 0) (Value.slice none 0 0) 71 71 71 71
  generalize (((w.alloc (Obj.cells #[Value.slice ao n c] 71)).alloc (Obj.cells #[Value.slice (some { block := by_, off := oy }) 1 d] 71)).alloc (Obj.cells #[Value.slice none 0 0] 71)).alloc (Obj.cells #[Value.slice none 0 0] 71) = V0 at A ⊢
  refine (HC0.out V0 A.below).mono ?_
  rintro e w1 ⟨rfl, hb1⟩
  have B0 := A.mono hb1
  have k1 := B0.c1; have k2 := B0.c2; have k3 := B0.c3; have k4 := B0.c4; have g3 := B0.f3; have g4 := B0.f4
  clear A hb1
  go_wp2_with fail
  refine (HC1.out w1 B0.below).mono ?_
  rintro e w2 ⟨rfl, hb2⟩
  have B := B0.mono hb2
  clear k1 k2 k3 k4 g3 g4 hb2 B0
  have k1 := B.c1; have k2 := B.c2; have k3 := B.c3; have k4 := B.c4; have g3 := B.f3; have g4 := B.f4
  have cy2 : w2.cell? ⟨by_, oy, none⟩ = some (.int .u32 (y : Int)) := (B.below.cell (p := ⟨by_, oy, none⟩) hbl).trans cy
  clear cy
  go_wp2_with fail
  go_region_with (go_at_call 94; refine (divLimb_any ao c n X y _ (HX.out.mono (B.below.trans (by go_grown))) HSX.out HN.out hyp hyB (by omega)).mono ?_; rintro e w3 ⟨g, Q, rfl, hbq, hsq, hlq, hvq, hbw⟩)
  all_goals
    have B1 := Four.mono (Four.mono B (by go_grown)) hbw
    have HBQ := Lib.hid hbq; have HSQ := Lib.hid hsq; have HLQ := Lib.hid hlq; have HVQ := Lib.hid hvq
    clear hbq hsq hlq hvq hbw k1 k2 k3 k4 g3 g4 cy2 B
    go_wp2_with fail
    refine (trimmed_at Q n _ _ _ HLQ.out (HBQ.out.row (by rw [HLQ.out]; exact Nat.le_refl _) (by omega)) HSQ.out).mono ?_
    rintro e w4 ⟨v4, rfl, hv4, hbw4⟩
    have B2 := B1.mono hbw4
    have HV4 := Lib.hid hv4
    clear hv4 hbw4 B1
    go_wp2_with fail
    rw [u64_mod (val X) y hyp hyB]
    have hrem : val X % y < y := Nat.mod_lt _ hyp
    have hrem2 : val X % y < 1000000000 := by omega
    generalize hre : val X % y = re at *
    have HRE := Lib.hid hre; clear hre hrem
    refine (of_any re (Nat.lt_trans hrem2 (by decide)) w4).mono ?_
    rintro e w5 ⟨v5, rfl, hv5, hbw5⟩
    have B3 := B2.mono hbw5
    obtain ⟨a7, c7, rfl, hr7⟩ := HV4.out.mono hbw5
    obtain ⟨a8, c8, rfl, hr8⟩ := hv5
    have k1 := B3.c1; have k2 := B3.c2; have k3 := B3.c3; have k4 := B3.c4; have g3 := B3.f3; have g4 := B3.f4
    have HR7 := Lib.hid hr7; have HR8 := Lib.hid hr8
    clear hr7 hr8 hbw5 B2
    go_wp2
    have B5 := B3.both (Value.slice a7 (limbs (val Q)).length c7) (Value.slice a8 (limbs re).length c8)
    refine bodyPost_ret (v := .tuple #[.agg #[.slice a7 (limbs (val Q)).length c7], .agg #[.slice a8 (limbs re).length c8]]) (by simp [results, Tryz.results72, go_sem, B5.c3, B5.c4]) rfl ?_
    have e1 : val Q = x / y := by rw [HVQ.out, HVX.out]
    have e2 : re = x % y := by rw [← HRE.out, HVX.out]
    have h7 := RowAt.four B3 (Value.slice a7 (limbs (val Q)).length c7) (Value.slice a8 (limbs re).length c8) HR7.out
    have h8 := RowAt.four B3 (Value.slice a7 (limbs (val Q)).length c7) (Value.slice a8 (limbs re).length c8) HR8.out
    have h5 := B5.below
    clear B5 B3 k1 k2 k3 k4 g3 g4 HR7 HR8
    rw [e1] at h7 h8 h5 ⊢
    rw [e2] at h7 h8 h5 ⊢
    exact ⟨_, _, rfl, ⟨a7, c7, rfl, h7⟩, ⟨a8, c8, rfl, h8⟩, h5⟩
set_option maxHeartbeats 4000000 in
theorem div_long (x y : Nat) (vx vy : Value) (w : World) (hx : NumAt w vx x) (hy : NumAt w vy y) (hle : ¬ x < y) (hl : 2 ≤ (limbs y).length) (hbig : (limbs x).length ≤ 100000000000) :
    Calls Tryz.prog 72 #[vx, vy] w (Divided x y w) := by
  have hy0 : y ≠ 0 := by intro h; rw [h, limbs_zero] at hl; simp at hl
  have C0 : ∀ W : World, Below w.heap.size w W → Calls Tryz.prog 90 #[vy] W fun e w' => e = .returned (.bool false) ∧ Below W.heap.size W w' := fun W hW => by
    have := isZero_any y vy W (hy.mono hW)
    rwa [show decide (y = 0) = false from by simp [hy0]] at this
  have C1 : ∃ r : Int, decide (r < 0) = false ∧ ∀ W : World, Below w.heap.size w W → Calls Tryz.prog 91 #[vx, vy] W fun e w' => e = .returned (.int .i64 r) ∧ Below W.heap.size W w' :=
    ⟨cmpN x y, by (unfold cmpN; rw [if_neg hle]; split <;> decide), fun W hW => compare_any x y vx vy W (hx.mono hW) (hy.mono hW)⟩
  obtain ⟨r, hr, C1⟩ := C1
  obtain ⟨ao, c, rfl, hx⟩ := hx
  obtain ⟨ap, d, rfl, hy⟩ := hy
  have hmn := limbs_length_mono (Nat.le_of_not_lt hle)
  have hsx := limbs_small x; have hvx := val_limbs x; have hsy := limbs_small y; have hvy := val_limbs y
  have htop : 1 ≤ (limbs y).getD ((limbs y).length - 1) 0 := by
    have hne : limbs y ≠ [] := fun h => hy0 (limbs_nil_iff.1 h)
    have h1 := limbs_norm y hne
    rw [List.getLast_eq_getElem] at h1
    rw [getD_lt _ _ (by omega)]
    omega
  generalize limbs x = X at *
  generalize limbs y = Y at *
  generalize hn : X.length = n at *
  generalize hm : Y.length = m at *
  have HX := Lib.hid hx; have HY := Lib.hid hy; have HC0 := Lib.hid C0; have HC1 := Lib.hid C1; have HN := Lib.hid hn; have HM := Lib.hid hm; have HSX := Lib.hid hsx; have HVX := Lib.hid hvx; have HSY := Lib.hid hsy; have HVY := Lib.hid hvy
  have HT := Lib.hid htop; have HMN := Lib.hid hmn; have HL := Lib.hid hl
  have hm1 : (((m : Nat) : Int) == 1) = false := by simp; omega
  clear hx hy C0 C1 hn hm hsx hvx hsy hvy hle hl hy0 htop hmn
  go_enter Tryz.func72, Tryz.ntmps72
  go_wp2_with fail
  have A := four_new w (Value.slice ao n c) (Value.slice ap m d) (Value.slice none 0 0) (Value.slice none 0 0) 71 71 71 71
  generalize (((w.alloc (Obj.cells #[Value.slice ao n c] 71)).alloc (Obj.cells #[Value.slice ap m d] 71)).alloc (Obj.cells #[Value.slice none 0 0] 71)).alloc (Obj.cells #[Value.slice none 0 0] 71) = V0 at A ⊢
  refine (HC0.out V0 A.below).mono ?_
  rintro e w1 ⟨rfl, hb1⟩
  have B0 := A.mono hb1
  have k1 := B0.c1; have k2 := B0.c2; have k3 := B0.c3; have k4 := B0.c4; have g3 := B0.f3; have g4 := B0.f4
  clear A hb1
  go_wp2_with fail
  refine (HC1.out w1 B0.below).mono ?_
  rintro e w2 ⟨rfl, hb2⟩
  have B := B0.mono hb2
  clear k1 k2 k3 k4 g3 g4 hb2 B0
  have k1 := B.c1; have k2 := B.c2; have k3 := B.c3; have k4 := B.c4; have g3 := B.f3; have g4 := B.f4
  go_wp2_with fail
  refine (divLong_any ao ap c d n m X Y w2 (HX.out.mono B.below) HSX.out (HY.out.mono B.below) HSY.out HN.out HM.out HL.out HMN.out HT.out hbig).mono ?_
  rintro e w5 ⟨v4, v5, rfl, hv4, hv5, hbw5⟩
  have B3 := B.mono hbw5
  obtain ⟨a7, c7, rfl, hr7⟩ := hv4
  obtain ⟨a8, c8, rfl, hr8⟩ := hv5
  clear k1 k2 k3 k4 g3 g4
  have k1 := B3.c1; have k2 := B3.c2; have k3 := B3.c3; have k4 := B3.c4; have g3 := B3.f3; have g4 := B3.f4
  rw [HVX.out, HVY.out] at *
  have HR7 := Lib.hid hr7; have HR8 := Lib.hid hr8
  clear hr7 hr8 hbw5 B
  go_wp2
  have B5 := B3.both (Value.slice a7 (limbs (x / y)).length c7) (Value.slice a8 (limbs (x % y)).length c8)
  refine bodyPost_ret (v := .tuple #[.agg #[.slice a7 (limbs (x / y)).length c7], .agg #[.slice a8 (limbs (x % y)).length c8]]) (by simp [results, Tryz.results72, go_sem, B5.c3, B5.c4]) rfl ?_
  exact ⟨_, _, rfl, ⟨a7, c7, rfl, RowAt.four B3 _ _ HR7.out⟩, ⟨a8, c8, rfl, RowAt.four B3 _ _ HR8.out⟩, B5.below⟩
theorem div_any (x y : Nat) (vx vy : Value) (w : World) (hx : NumAt w vx x) (hy : NumAt w vy y) (hbig : (limbs x).length ≤ 100000000000) :
    Calls Tryz.prog 72 #[vx, vy] w (Divided x y w) := by
  by_cases hs : y = 0 ∨ x < y
  · refine (div_small x y vx vy w hx hy hs).mono fun e w' h => ?_
    obtain ⟨v2, rfl, h2, hb⟩ := h
    have e1 : x / y = 0 := by
      rcases hs with h | h
      · rw [h, Nat.div_zero]
      · exact Nat.div_eq_of_lt h
    have e2 : x % y = x := by
      rcases hs with h | h
      · rw [h, Nat.mod_zero]
      · exact Nat.mod_eq_of_lt h
    exact ⟨_, v2, rfl, by rw [e1]; exact numAt_zero w', by rw [e2]; exact h2, hb⟩
  · have hle : ¬ x < y := fun h => hs (.inr h)
    by_cases hl : (limbs y).length = 1
    · exact div_one x y vx vy w hx hy hle hl hbig
    · have hne : limbs y ≠ [] := fun h => hs (.inl (limbs_nil_iff.1 h))
      have := List.length_pos_iff.2 hne
      exact div_long x y vx vy w hx hy hle (by omega) hbig
end Go.Proofs.YtmnbjkbkjmgmkaaGreatDoor
