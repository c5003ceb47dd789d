import Derived.Test.YtjobmkdaaionlaaGreatDoorCut4
import Derived.Test.YtjobmkdaaionlaaGreatDoorCut16
import Derived.Test.YtjobmkdaaionlaaGreatDoorCut6

set_option linter.unusedVariables false
/-
  natural: word, leading.
-/
namespace Go.Proofs.YtjobmkdaaionlaaGreatDoor
open Go Go.Proofs Go.RowKit
theorem limbs_drop (x k : Nat) : (limbs x).drop k = limbs (x / 1000000000 ^ k) := by
  induction k generalizing x with
  | zero => simp
  | succ k ih =>
    by_cases h : x = 0
    · subst h; rw [Nat.zero_div, limbs_zero]; rfl
    · rw [limbs_pos h, List.drop_succ_cons, ih, Nat.pow_succ, Nat.mul_comm, Nat.div_div_eq_div_mul]
theorem val_drop_step (l : List Nat) (k : Nat) (h : k < l.length) : val (l.drop k) = l.getD k 0 + 1000000000 * val (l.drop (k + 1)) := by
  rw [List.drop_eq_getElem_cons h, getD_lt _ _ h]; rfl
set_option maxHeartbeats 2000000 in
theorem word_any (x : Nat) (vx : Value) (w : World) (hx : NumAt w vx x) (hx18 : x < 1000000000000000000) :
    Calls Tryz.prog 197 #[vx] w fun e w' => e = .returned (.int .u64 x) ∧ Below w.heap.size w w' := by
  obtain ⟨ao, c, rfl, hr⟩ := hx
  have hval := val_limbs x
  have hs := limbs_small x
  have hstep := fun k h => val_drop_step (limbs x) k h
  have hle : ∀ k, val ((limbs x).drop k) < 1000000000000000000 := fun k => by
    rw [limbs_drop, val_limbs]
    exact Nat.lt_of_le_of_lt (Nat.div_le_self _ _) hx18
  have hend : val ((limbs x).drop (limbs x).length) = 0 := by rw [List.drop_of_length_le (Nat.le_refl _)]; rfl
  have h1 := hr.1; have h2 := hr.2.1
  have hget : ∀ k, k < (limbs x).length → ∃ b off, ao = some ⟨b, off, none⟩ ∧ b < w.heap.size ∧ w.cell? ⟨b, off + k, none⟩ = some (.int .u32 ((limbs x).getD k 0 : Nat)) := fun k hk => by
    have hne : limbs x ≠ [] := fun e => by rw [e] at hk; simp at hk
    obtain ⟨b, off, rfl⟩ := hr.addr hne
    exact ⟨b, off, rfl, hr.block hne, hr.get k hk⟩
  have hd9 : ∀ k, (limbs x).getD k 0 < 1000000000 := fun k => hs.getD k
  generalize limbs x = X at *
  generalize X.length = n at *
  have HST := Lib.hid hstep; have HLE := Lib.hid hle; have HEND := Lib.hid hend; have HG := Lib.hid hget; have HV := Lib.hid hval; have HD := Lib.hid hd9
  clear hstep hle hend hget hval hs hr hd9 hx18
  go_enter Tryz.func197, Tryz.ntmps197
  have A : Below w.heap.size w (w.alloc (Obj.cells #[Value.slice ao n c] 173)) := (Below.refl _ _).alloc (Nat.le_refl _) _
  have cA : (w.alloc (Obj.cells #[Value.slice ao n c] 173)).cell? ⟨w.heap.size, 0, none⟩ = some (Value.slice ao n c) := by go_cell
  go_wp2_with fail
  have HA := Lib.hid A; clear A
  generalize (w.alloc (Obj.cells #[Value.slice ao n c] 173)) = W0 at *
  go_loop [3, 4] (fun wv iv => ∃ k : Nat, k ≤ n ∧ iv = .int .i64 ((k : Int) - 1) ∧ wv = .int .u64 (val (X.drop k) : Nat)) (fun _ iv => (intOf iv + 1).toNat)
  case atStart => exact ⟨n, Nat.le_refl _, rfl, by rw [HEND.out]; rfl⟩
  case round =>
    obtain ⟨k, hk, rfl, rfl⟩ := hrel
    rcases Nat.eq_zero_or_pos k with rfl | hk0
    · have hv : val (X.drop 0) = x := by rw [List.drop_zero, HV.out]
      rw [hv]
      clear hv
      go_wp2
      go_ret
      exact ⟨rfl, HA.out⟩
    · obtain ⟨i, rfl⟩ : ∃ i, k = i + 1 := ⟨k - 1, by omega⟩
      obtain ⟨b, off, rfl, hb, hc⟩ := HG.out i (by omega)
      have hc0 := (HA.out.cell (p := ⟨b, off + i, none⟩) hb).trans hc
      have hst := HST.out i (by omega)
      have hl := HLE.out i
      have hd := HD.out i
      generalize X.getD i 0 = d at *
      generalize val (X.drop (i + 1)) = v at *
      have e1 : (((i + 1 : Nat) : Int) - 1) = (i : Int) := by omega
      rw [e1]
      have hv : v < 1000000000 := by omega
      have HS := Lib.hid hst; clear hst hc e1 hl
      go_wp2
      go_round
      case rel => exact ⟨i, by omega, rfl, by rw [HS.out]; go_num⟩
      case measure => simp [intOf]
theorem row_drop {w : World} {b o c : Nat} {l : List Nat} (h : RowAt w (some ⟨b, o, none⟩) c l) (k : Nat) (hk : k ≤ l.length) : RowAt w (some ⟨b, o + k, none⟩) (c - k) (l.drop k) := by
  obtain ⟨h1, h2, h3⟩ := h
  refine ⟨by simp; omega, by omega, ?_⟩
  rcases h3 with ⟨h3, -⟩ | ⟨b', off, he, hlt, hc⟩
  · left; rw [h3]; simp
  · injection he with he; injection he with e1 e2 _
    subst e1; subst e2
    refine .inr ⟨b, o + k, rfl, hlt, fun j hj => ?_⟩
    rw [List.length_drop] at hj
    have := hc (k + j) (by omega)
    rw [Nat.add_assoc, this]
    rw [List.getD_eq_getElem?_getD, List.getD_eq_getElem?_getD, List.getElem?_drop]
theorem row_nil {w : World} {b o c : Nat} (hc : c ≤ 9223372036854775807) : RowAt w (some ⟨b, o, none⟩) c [] := ⟨Nat.zero_le _, hc, .inl ⟨rfl, fun h => by cases h⟩⟩
set_option maxHeartbeats 2000000 in
theorem leading_any (x m : Nat) (vx : Value) (w : World) (hx : NumAt w vx x) (hne : x ≠ 0) (hm : 2 ≤ m) (hle : (limbs x).length ≤ m) (hbig : m ≤ 1000000000000) :
    Calls Tryz.prog 213 #[vx, .int .i64 m] w fun e w' => e = .returned (.int .i64 ((x / 1000000000 ^ (m - 2) : Nat) : Int)) ∧ Below w.heap.size w w' := by
  obtain ⟨q, rfl⟩ : ∃ q, m = q + 2 := ⟨m - 2, by omega⟩
  rw [Nat.add_sub_cancel]
  obtain ⟨ao, c, rfl, hr⟩ := hx
  have hnil : limbs x ≠ [] := fun e => hne (limbs_nil_iff.1 e)
  obtain ⟨b, off, rfl⟩ := hr.addr hnil
  have h1 := hr.1; have h2 := hr.2.1
  have hlen : (limbs (x / 1000000000 ^ q)).length = (limbs x).length - q := by rw [← limbs_drop, List.length_drop]
  have hlt : x / 1000000000 ^ q < 1000000000000000000 := by
    have h3 := lt_pow_limbs (x / 1000000000 ^ q)
    rw [hlen] at h3
    exact Nat.lt_of_lt_of_le h3 (Nat.le_trans (Nat.pow_le_pow_right (by decide) (show (limbs x).length - q ≤ 2 by omega)) (by decide))
  have CW : ∀ (v : Value) (W : World), NumAt W v (x / 1000000000 ^ q) → Calls Tryz.prog 197 #[v] W fun e w' => e = .returned (.int .u64 ((x / 1000000000 ^ q : Nat) : Int)) ∧ Below W.heap.size W w' := fun v W hv => word_any _ v W hv hlt
  have hrow : q ≤ (limbs x).length → RowAt w (some ⟨b, off + q, none⟩) (c - q) (limbs (x / 1000000000 ^ q)) := fun h => by
    have := row_drop hr q h
    rwa [limbs_drop] at this
  have hzero : (limbs x).length ≤ q → limbs (x / 1000000000 ^ q) = [] := fun e => List.length_eq_zero_iff.1 (by rw [hlen]; omega)
  generalize x / 1000000000 ^ q = z at *
  generalize (limbs x).length = n at *
  have KW := Lib.hid CW; have HROW := Lib.hid hrow; have HL := Lib.hid hlen; have HNZ := Lib.hid hzero
  clear CW hrow hlen hr hnil hne hzero
  by_cases hqn : q < n
  · have hqn' : (q : Int) ≤ (n : Int) := by omega
    have hmn : min (q : Int) (n : Int) = (q : Int) := by omega
    have hqc : q < c := by omega
    have hrow := HROW.out (by omega)
    have hl := HL.out
    have HR := Lib.hid hrow; have HLL := Lib.hid hl
    clear hrow hl HROW HNZ
    go_enter Tryz.func213, Tryz.ntmps213
    go_wp2_with (go_at_call 197; refine (KW.out _ _ ⟨some ⟨b, off + q, none⟩, c - q, by rw [HLL.out], (HR.out.mono ((Below.refl _ _).alloc (Nat.le_refl _) _)).mono ((Below.refl _ _).alloc (Nat.le_refl _) _)⟩).mono ?_; rintro e w1 ⟨rfl, hb1⟩; refine Hid.out ?_)
    have HB := Lib.hid hb1; clear hb1
    refine Lib.hid ?_
    go_wp2
    go_ret
    exact ⟨rfl, (((Below.refl _ _).alloc (Nat.le_refl _) _).alloc (by simp) _).trans (HB.out.mono (by simp; omega))⟩
  · have hzn := HNZ.out (by omega)
    have hqe : q = n ∨ ¬ (q : Int) ≤ (n : Int) := by omega
    have hmn : min (q : Int) (n : Int) = (n : Int) := by omega
    have HZN := Lib.hid hzn; clear hzn HROW HL HNZ
    by_cases hcap : n = c
    · subst hcap
      rcases hqe with rfl | hqe
      · go_enter Tryz.func213, Tryz.ntmps213
        go_wp2_with (go_at_call 197; refine (KW.out _ _ ⟨some ⟨b, off, none⟩, 0, by rw [HZN.out]; rfl, by rw [HZN.out]; exact row_nil (by decide)⟩).mono ?_; rintro e w1 ⟨rfl, hb1⟩; refine Hid.out ?_)
        have HB := Lib.hid hb1; clear hb1
        refine Lib.hid ?_
        go_wp2
        go_ret
        exact ⟨rfl, (((Below.refl _ _).alloc (Nat.le_refl _) _).alloc (by simp) _).trans (HB.out.mono (by simp; omega))⟩
      · go_enter Tryz.func213, Tryz.ntmps213
        go_wp2_with (go_at_call 197; refine (KW.out _ _ ⟨some ⟨b, off, none⟩, 0, by rw [HZN.out]; rfl, by rw [HZN.out]; exact row_nil (by decide)⟩).mono ?_; rintro e w1 ⟨rfl, hb1⟩; refine Hid.out ?_)
        have HB := Lib.hid hb1; clear hb1
        refine Lib.hid ?_
        go_wp2
        go_ret
        exact ⟨rfl, (((Below.refl _ _).alloc (Nat.le_refl _) _).alloc (by simp) _).trans (HB.out.mono (by simp; omega))⟩
    · have hcap' : n < c := by omega
      clear hcap
      rcases hqe with rfl | hqe
      · go_enter Tryz.func213, Tryz.ntmps213
        go_wp2_with (go_at_call 197; refine (KW.out _ _ ⟨some ⟨b, off + q, none⟩, c - q, by rw [HZN.out]; rfl, by rw [HZN.out]; exact row_nil (by omega)⟩).mono ?_; rintro e w1 ⟨rfl, hb1⟩; refine Hid.out ?_)
        have HB := Lib.hid hb1; clear hb1
        refine Lib.hid ?_
        go_wp2
        go_ret
        exact ⟨rfl, (((Below.refl _ _).alloc (Nat.le_refl _) _).alloc (by simp) _).trans (HB.out.mono (by simp; omega))⟩
      · go_enter Tryz.func213, Tryz.ntmps213
        go_wp2_with (go_at_call 197; refine (KW.out _ _ ⟨some ⟨b, off + n, none⟩, c - n, by rw [HZN.out]; rfl, by rw [HZN.out]; exact row_nil (by omega)⟩).mono ?_; rintro e w1 ⟨rfl, hb1⟩; refine Hid.out ?_)
        have HB := Lib.hid hb1; clear hb1
        refine Lib.hid ?_
        go_wp2
        go_ret
        exact ⟨rfl, (((Below.refl _ _).alloc (Nat.le_refl _) _).alloc (by simp) _).trans (HB.out.mono (by simp; omega))⟩
def StepsRet (x0 y0 : Int) (w : World) (e : Ending) (w' : World) : Prop :=
  ∃ a b c d x y : Int, ∃ f : Bool, e = .returned (.agg #[.int .i64 a, .int .i64 b, .int .i64 c, .int .i64 d]) ∧ StepInv x0 y0 a b c d x y f ∧ Below w.heap.size w w'
structure StBox (w W : World) (a b c d : Int) : Prop where
  lt : w.heap.size + 1 < W.heap.size
  s0 : W.cell? ⟨w.heap.size + 1, 0, none⟩ = some (.int .i64 a)
  s1 : W.cell? ⟨w.heap.size + 1, 1, none⟩ = some (.int .i64 b)
  s2 : W.cell? ⟨w.heap.size + 1, 2, none⟩ = some (.int .i64 c)
  s3 : W.cell? ⟨w.heap.size + 1, 3, none⟩ = some (.int .i64 d)
  g0 : W.frozen? ⟨w.heap.size + 1, 0, none⟩ = false
  g1 : W.frozen? ⟨w.heap.size + 1, 1, none⟩ = false
  g2 : W.frozen? ⟨w.heap.size + 1, 2, none⟩ = false
  g3 : W.frozen? ⟨w.heap.size + 1, 3, none⟩ = false
  r0 : ∃ v, W.cell? ⟨w.heap.size, 0, none⟩ = some v
  r1 : ∃ v, W.cell? ⟨w.heap.size, 1, none⟩ = some v
  r2 : ∃ v, W.cell? ⟨w.heap.size, 2, none⟩ = some v
  r3 : ∃ v, W.cell? ⟨w.heap.size, 3, none⟩ = some v
  f0 : W.frozen? ⟨w.heap.size, 0, none⟩ = false
  f1 : W.frozen? ⟨w.heap.size, 1, none⟩ = false
  f2 : W.frozen? ⟨w.heap.size, 2, none⟩ = false
  f3 : W.frozen? ⟨w.heap.size, 3, none⟩ = false
  below : Below w.heap.size w W
theorem StBox.put {w W : World} {a b c d : Int} (h : StBox w W a b c d) (a' b' c' d' : Int) : StBox w ((((W.setCell ⟨w.heap.size + 1, 0, none⟩ (.int .i64 a')).setCell ⟨w.heap.size + 1, 1, none⟩ (.int .i64 b')).setCell ⟨w.heap.size + 1, 2, none⟩ (.int .i64 c')).setCell ⟨w.heap.size + 1, 3, none⟩ (.int .i64 d')) a' b' c' d' := by
  have hl := h.lt
  obtain ⟨v0, h0⟩ := h.r0; obtain ⟨v1, h1⟩ := h.r1; obtain ⟨v2, h2⟩ := h.r2; obtain ⟨v3, h3⟩ := h.r3
  refine ⟨by simpa [World.setCell] using hl, ?_, ?_, ?_, ?_, ?_, ?_, ?_, ?_, ⟨v0, ?_⟩, ⟨v1, ?_⟩, ⟨v2, ?_⟩, ⟨v3, ?_⟩, ?_, ?_, ?_, ?_, ?_⟩
  · rw [World.cell?_setCell_other (h := by simp), World.cell?_setCell_other (h := by simp), World.cell?_setCell_other (h := by simp)]; exact cellSet h.s0 _
  · rw [World.cell?_setCell_other (h := by simp), World.cell?_setCell_other (h := by simp)]; exact cellSet (u := .int .i64 b) (by rw [World.cell?_setCell_other (h := by simp)]; exact h.s1) _
  · rw [World.cell?_setCell_other (h := by simp)]; exact cellSet (u := .int .i64 c) (by rw [World.cell?_setCell_other (h := by simp), World.cell?_setCell_other (h := by simp)]; exact h.s2) _
  · exact cellSet (u := .int .i64 d) (by rw [World.cell?_setCell_other (h := by simp), World.cell?_setCell_other (h := by simp), World.cell?_setCell_other (h := by simp)]; exact h.s3) _
  · simp only [World.frozen?_setCell]; exact h.g0
  · simp only [World.frozen?_setCell]; exact h.g1
  · simp only [World.frozen?_setCell]; exact h.g2
  · simp only [World.frozen?_setCell]; exact h.g3
  · rw [World.cell?_setCell_other (h := by simp), World.cell?_setCell_other (h := by simp), World.cell?_setCell_other (h := by simp), World.cell?_setCell_other (h := by simp)]; exact h0
  · rw [World.cell?_setCell_other (h := by simp), World.cell?_setCell_other (h := by simp), World.cell?_setCell_other (h := by simp), World.cell?_setCell_other (h := by simp)]; exact h1
  · rw [World.cell?_setCell_other (h := by simp), World.cell?_setCell_other (h := by simp), World.cell?_setCell_other (h := by simp), World.cell?_setCell_other (h := by simp)]; exact h2
  · rw [World.cell?_setCell_other (h := by simp), World.cell?_setCell_other (h := by simp), World.cell?_setCell_other (h := by simp), World.cell?_setCell_other (h := by simp)]; exact h3
  · simp only [World.frozen?_setCell]; exact h.f0
  · simp only [World.frozen?_setCell]; exact h.f1
  · simp only [World.frozen?_setCell]; exact h.f2
  · simp only [World.frozen?_setCell]; exact h.f3
  · exact (((h.below.setCell (p := ⟨w.heap.size + 1, 0, none⟩) (by simp) _).setCell (p := ⟨w.heap.size + 1, 1, none⟩) (by simp) _).setCell (p := ⟨w.heap.size + 1, 2, none⟩) (by simp) _).setCell (p := ⟨w.heap.size + 1, 3, none⟩) (by simp) _
set_option maxRecDepth 20000 in
set_option maxHeartbeats 8000000 in
theorem stepsOf_any (x0 y0 : Int) (w : World) (h0 : 0 ≤ y0) (h1 : y0 ≤ x0) (hX : x0 < 1000000000000000000) :
    Calls Tryz.prog 212 #[.int .i64 x0, .int .i64 y0] w (StepsRet x0 y0 w) := by
  have hs0 := StepInv.start h0 h1 hX
  have HS0 := Lib.hid hs0; clear hs0
  go_enter Tryz.func212, Tryz.ntmps212
  go_wp2_with fail
  have A : StBox w ((w.alloc (Obj.cells #[Value.int IntKind.i64 0, Value.int IntKind.i64 0, Value.int IntKind.i64 0, Value.int IntKind.i64 0] 216)).alloc (Obj.cells #[Value.int IntKind.i64 1, Value.int IntKind.i64 0, Value.int IntKind.i64 0, Value.int IntKind.i64 1] 216)) 1 0 0 1 :=
    ⟨by simp, by go_cell, by go_cell, by go_cell, by go_cell, by go_cell, by go_cell, by go_cell, by go_cell, ⟨.int .i64 0, by go_cell⟩, ⟨.int .i64 0, by go_cell⟩, ⟨.int .i64 0, by go_cell⟩, ⟨.int .i64 0, by go_cell⟩, by go_cell, by go_cell, by go_cell, by go_cell, by go_grown⟩
  have HA := Lib.hid A; clear A
  go_loopw [0, 1] (fun xv yv wr => ∃ a b c d x y : Int, ∃ f : Bool, xv = .int .i64 x ∧ yv = .int .i64 y ∧ StepInv x0 y0 a b c d x y f ∧ StBox w wr a b c d) (fun _ yv _ => (intOf yv).toNat)
  case atStart => exact ⟨1, 0, 0, 1, x0, y0, true, rfl, rfl, HS0.out, HA.out⟩
  case round =>
    obtain ⟨a, b, c, d, x, y, f, rfl, rfl, hinv, hbox⟩ := hrel
    have hy0 := hinv.y0
    have hxy := hinv.ord
    have hx18 := hinv.xlt
    obtain ⟨a1, a2⟩ := hinv.ba
    obtain ⟨b1, b2⟩ := hinv.bb
    obtain ⟨c1, c2⟩ := hinv.bc
    obtain ⟨d1, d2⟩ := hinv.bd
    have hyc := hinv.yc; have hyd := hinv.yd; have hxa := hinv.xa; have hxb := hinv.xb
    have k0 := hbox.s0; have k1 := hbox.s1; have k2 := hbox.s2; have k3 := hbox.s3
    have hstep := fun (q : Int) (e1 : y + c ≠ 0) (e2 : y + d ≠ 0) (q1 : q = (x + a) / (y + c)) (q2 : q = (x + b) / (y + d)) => hinv.step hX (by omega) e1 e2 q1 q2
    have HI := Lib.hid hinv; have HBX := Lib.hid hbox; have HST := Lib.hid hstep
    clear hinv hstep
    have hexit : ∃ W' : World, W' = (((wr.setCell ⟨w.heap.size, 0, none⟩ (.int .i64 a)).setCell ⟨w.heap.size, 1, none⟩ (.int .i64 b)).setCell ⟨w.heap.size, 2, none⟩ (.int .i64 c)).setCell ⟨w.heap.size, 3, none⟩ (.int .i64 d) ∧ (W'.cell? ⟨w.heap.size, 0, none⟩ = some (.int .i64 a) ∧ W'.cell? ⟨w.heap.size, 1, none⟩ = some (.int .i64 b) ∧ W'.cell? ⟨w.heap.size, 2, none⟩ = some (.int .i64 c) ∧ W'.cell? ⟨w.heap.size, 3, none⟩ = some (.int .i64 d)) ∧ Below w.heap.size w W' := by
      obtain ⟨v0, h0⟩ := hbox.r0; obtain ⟨v1, h1⟩ := hbox.r1; obtain ⟨v2, h2⟩ := hbox.r2; obtain ⟨v3, h3⟩ := hbox.r3
      refine ⟨_, rfl, ⟨?_, ?_, ?_, ?_⟩, (((hbox.below.setCell (p := ⟨w.heap.size, 0, none⟩) (Nat.le_refl _) _).setCell (p := ⟨w.heap.size, 1, none⟩) (Nat.le_refl _) _).setCell (p := ⟨w.heap.size, 2, none⟩) (Nat.le_refl _) _).setCell (p := ⟨w.heap.size, 3, none⟩) (Nat.le_refl _) _⟩
      · rw [World.cell?_setCell_other (h := by simp), World.cell?_setCell_other (h := by simp), World.cell?_setCell_other (h := by simp)]; exact cellSet h0 _
      · rw [World.cell?_setCell_other (h := by simp), World.cell?_setCell_other (h := by simp)]; exact cellSet (u := v1) (by rw [World.cell?_setCell_other (h := by simp)]; exact h1) _
      · rw [World.cell?_setCell_other (h := by simp)]; exact cellSet (u := v2) (by rw [World.cell?_setCell_other (h := by simp), World.cell?_setCell_other (h := by simp)]; exact h2) _
      · exact cellSet (u := v3) (by rw [World.cell?_setCell_other (h := by simp), World.cell?_setCell_other (h := by simp), World.cell?_setCell_other (h := by simp)]; exact h3) _
    obtain ⟨W', hW', hcells, hbelow⟩ := hexit
    subst hW'
    have FC := Lib.hid hcells; have HBF := Lib.hid hbelow
    clear hcells hbelow
    have f0 := hbox.f0; have f1 := hbox.f1; have f2 := hbox.f2; have f3 := hbox.f3
    obtain ⟨u0, r0⟩ := hbox.r0; obtain ⟨u1, r1⟩ := hbox.r1; obtain ⟨u2, r2⟩ := hbox.r2; obtain ⟨u3, r3⟩ := hbox.r3
    have g0 := hbox.g0; have g1 := hbox.g1; have g2 := hbox.g2; have g3 := hbox.g3
    clear hbox
    by_cases e1 : y + c = 0
    · have t1 : (y + c != 0) = false := by simp [e1]
      clear e1
      go_wp2
      refine bodyPost_ret (v := .agg #[.int .i64 a, .int .i64 b, .int .i64 c, .int .i64 d]) (by simp [results, Tryz.results212, go_sem, FC.out.1, FC.out.2.1, FC.out.2.2.1, FC.out.2.2.2]) rfl ?_
      exact ⟨a, b, c, d, x, y, f, rfl, HI.out, HBF.out⟩
    · have t1 : (y + c != 0) = true := by simp [e1]
      have n1 : 0 < y + c := by omega
      by_cases e2 : y + d = 0
      · have t2 : (y + d != 0) = false := by simp [e2]
        clear e1 e2
        go_wp2
        refine bodyPost_ret (v := .agg #[.int .i64 a, .int .i64 b, .int .i64 c, .int .i64 d]) (by simp [results, Tryz.results212, go_sem, FC.out.1, FC.out.2.1, FC.out.2.2.1, FC.out.2.2.2]) rfl ?_
        exact ⟨a, b, c, d, x, y, f, rfl, HI.out, HBF.out⟩
      · have t2 : (y + d != 0) = true := by simp [e2]
        have n2 : 0 < y + d := by omega
        have hst := fun q => HST.out q e1 e2
        have HS := Lib.hid hst; clear hst HST
        have z1 : ¬ y + c = 0 := e1
        have z2 : ¬ y + d = 0 := e2
        obtain ⟨q1, hq1⟩ : ∃ q1, q1 = (x + a) / (y + c) := ⟨_, rfl⟩
        obtain ⟨q2, hq2⟩ : ∃ q2, q2 = (x + b) / (y + d) := ⟨_, rfl⟩
        by_cases hq : q1 = q2
        · have hs := HS.out q1 hq1 (hq.trans hq2)
          obtain ⟨hnew, hlt, hq0, hqx, hqc, hqd⟩ := hs
          have hb1 := hnew.bc; have hb2 := hnew.bd
          have HN := Lib.hid hnew; clear hnew HS
          have r1' : (x + a) / (y + c) = q1 := hq1.symm
          have r2' : (x + b) / (y + d) = q1 := (hq.trans hq2).symm
          clear hq hq1 hq2 e1 e2
          go_wp2
          go_roundw
          case rel => exact ⟨c, d, a - q1 * c, b - q1 * d, y, x - q1 * y, false, rfl, rfl, HN.out, HBX.out.put _ _ _ _⟩
          case measure => simp only [intOf]; omega
        · have t3 : (q1 != q2) = true := by simp [hq]
          have r1' : (x + a) / (y + c) = q1 := hq1.symm
          have r2' : (x + b) / (y + d) = q2 := hq2.symm
          clear hq hq1 hq2 e1 e2 HS
          go_wp2
          refine bodyPost_ret (v := .agg #[.int .i64 a, .int .i64 b, .int .i64 c, .int .i64 d]) (by simp [results, Tryz.results212, go_sem, FC.out.1, FC.out.2.1, FC.out.2.2.1, FC.out.2.2.2]) rfl ?_
          exact ⟨a, b, c, d, x, y, f, rfl, HI.out, HBF.out⟩
structure CombInv (X Y S : List Nat) (a b : Int) (n i : Nat) (k : Int) : Prop where
  len : S.length = n
  small : Small S
  lo : -3000000000 ≤ k
  hi : k ≤ 3000000000
  eq : (val (S.take i) : Int) + k * (1000000000 ^ i : Nat) = a * (val (X.take i) : Nat) + b * (val (Y.take i) : Nat)
theorem CombInv.start (X Y : List Nat) (a b : Int) (n : Nat) : CombInv X Y (List.replicate n 0) a b n 0 0 :=
  ⟨by simp, Small.replicate _, by decide, by decide, by simp [val]⟩
theorem CombInv.step {X Y S : List Nat} {a b k : Int} {n i : Nat} (h : CombInv X Y S a b n i k) (hi : i < n) (hX : Small X) (hY : Small Y)
    (ha1 : -1000000000 < a) (ha2 : a < 1000000000) (hb1 : -1000000000 < b) (hb2 : b < 1000000000) (low : Nat) (k' t : Int)
    (ht : t = k + a * (X.getD i 0 : Nat) + b * (Y.getD i 0 : Nat)) (hlow : (low : Int) = t % 1000000000) (hk' : k' = t / 1000000000) :
    CombInv X Y (S.set i low) a b n (i + 1) k' ∧ -2100000000000000000 ≤ t ∧ t ≤ 2100000000000000000 ∧ low < 1000000000 := by
  have h1 := hX.getD i; have h2 := hY.getD i; have h3 := h.lo; have h4 := h.hi; have h5 := h.eq
  have p1 : -1000000000000000000 ≤ a * (X.getD i 0 : Nat) ∧ a * (X.getD i 0 : Nat) ≤ 1000000000000000000 := by
    have m1 : a * ((X.getD i 0 : Nat) : Int) ≤ 1000000000 * ((X.getD i 0 : Nat) : Int) := Int.mul_le_mul_of_nonneg_right (by omega) (by omega)
    have m2 : (-1000000000) * ((X.getD i 0 : Nat) : Int) ≤ a * ((X.getD i 0 : Nat) : Int) := Int.mul_le_mul_of_nonneg_right (by omega) (by omega)
    omega
  have p2 : -1000000000000000000 ≤ b * (Y.getD i 0 : Nat) ∧ b * (Y.getD i 0 : Nat) ≤ 1000000000000000000 := by
    have m1 : b * ((Y.getD i 0 : Nat) : Int) ≤ 1000000000 * ((Y.getD i 0 : Nat) : Int) := Int.mul_le_mul_of_nonneg_right (by omega) (by omega)
    have m2 : (-1000000000) * ((Y.getD i 0 : Nat) : Int) ≤ b * ((Y.getD i 0 : Nat) : Int) := Int.mul_le_mul_of_nonneg_right (by omega) (by omega)
    omega
  have hl : low < 1000000000 := by omega
  refine ⟨⟨by simp [h.len], h.small.set _ _ hl, by omega, by omega, ?_⟩, by omega, by omega, hl⟩
  rw [val_set_take _ _ _ (by rw [h.len]; exact hi), val_take_getD X, val_take_getD Y, Nat.pow_succ]
  have e1 : (low : Int) + 1000000000 * k' = t := by omega
  clear hlow hk' p1 p2 h1 h2 h3 h4 hl h
  generalize (1000000000 : Nat) ^ i = Q at *
  simp only [Int.natCast_add, Int.natCast_mul]
  rw [show ((1000000000 : Nat) : Int) = 1000000000 from rfl]
  generalize (Q : Int) = P at *
  generalize ((X.getD i 0 : Nat) : Int) = xd at *
  generalize ((Y.getD i 0 : Nat) : Int) = yd at *
  generalize ((val (List.take i S) : Nat) : Int) = vs at *
  generalize ((val (List.take i X) : Nat) : Int) = vx at *
  generalize ((val (List.take i Y) : Nat) : Int) = vy at *
  generalize (low : Int) = lw at *
  have e2 : (lw + 1000000000 * k') * P = (k + a * xd + b * yd) * P := by rw [e1, ht]
  clear ht e1
  grind
theorem CombInv.done {X Y S : List Nat} {a b k : Int} {n : Nat} (h : CombInv X Y S a b n n k) (hX : X.length = n) (hY : Y.length ≤ n) {Z : Nat}
    (hZ : (Z : Int) = a * (val X : Nat) + b * (val Y : Nat)) (hlt : Z < 1000000000 ^ n) : val S = Z := by
  have h5 := h.eq
  rw [List.take_of_length_le (by rw [h.len]; exact Nat.le_refl _), List.take_of_length_le (by omega), List.take_of_length_le (by omega), ← hZ] at h5
  have h6 := val_lt h.small
  rw [h.len] at h6
  generalize (1000000000 : Nat) ^ n = P at *
  have hk : k = 0 := by
    rcases Int.lt_trichotomy k 0 with hk | hk | hk
    · exfalso
      have : k * (P : Int) ≤ -1 * (P : Int) := Int.mul_le_mul_of_nonneg_right (by omega) (by omega)
      omega
    · exact hk
    · exfalso
      have : 1 * (P : Int) ≤ k * (P : Int) := Int.mul_le_mul_of_nonneg_right (by omega) (by omega)
      omega
  rw [hk, Int.zero_mul] at h5
  omega
theorem tmod_low {t : Int} (h : t < 0) : (t.tmod 1000000000 = 0 ∧ t % 1000000000 = 0 ∧ t.tdiv 1000000000 = t / 1000000000) ∨ (t.tmod 1000000000 < 0 ∧ -1000000000 < t.tmod 1000000000 ∧ t % 1000000000 = t.tmod 1000000000 + 1000000000 ∧ (t - (t.tmod 1000000000 + 1000000000)).tdiv 1000000000 = t / 1000000000) := by
  obtain ⟨u, rfl⟩ : ∃ u : Nat, t = -(u : Int) := ⟨t.natAbs, by omega⟩
  have e1 : (-(u : Int)).tmod 1000000000 = -((u % 1000000000 : Nat) : Int) := by
    rw [Int.neg_tmod, Int.tmod_eq_emod_of_nonneg (by omega)]; omega
  have e2 : ∀ v : Nat, (-(v : Int)).tdiv 1000000000 = -((v / 1000000000 : Nat) : Int) := fun v => by
    rw [Int.neg_tdiv, Int.tdiv_eq_ediv_of_nonneg (by omega)]; omega
  rw [e1]
  by_cases h0 : u % 1000000000 = 0
  · left
    refine ⟨by omega, by omega, ?_⟩
    rw [e2]; omega
  · right
    refine ⟨by omega, by omega, by omega, ?_⟩
    obtain ⟨v, hv⟩ : ∃ v : Nat, -(u : Int) - (-((u % 1000000000 : Nat) : Int) + 1000000000) = -(v : Int) := ⟨u - u % 1000000000 + 1000000000, by omega⟩
    rw [hv, e2]; omega
set_option maxRecDepth 20000 in
set_option maxHeartbeats 8000000 in
theorem combine_any (x y Z : Nat) (a b : Int) (vx vy : Value) (w : World) (hx : NumAt w vx x) (hy : NumAt w vy y) (hbig : (limbs x).length ≤ 1000000000000) (hyx : (limbs y).length ≤ (limbs x).length)
    (ha1 : -1000000000 < a) (ha2 : a < 1000000000) (hb1 : -1000000000 < b) (hb2 : b < 1000000000) (hZ : (Z : Int) = a * (x : Nat) + b * (y : Nat)) (hle : Z ≤ x) :
    Calls Tryz.prog 214 #[.int .i64 a, vx, .int .i64 b, vy] w (RetN Z w) := by
  obtain ⟨i0, hi, hz0, hz1, hz2⟩ := info_parts infoU32
  have hlt := Nat.lt_of_le_of_lt hle (lt_pow_limbs x)
  obtain ⟨ao, c, rfl, hx⟩ := hx
  obtain ⟨ap, d, rfl, hy⟩ := hy
  have hsx := limbs_small x; have hsy := limbs_small y
  have e1 := val_limbs x; have e2 := val_limbs y
  generalize limbs x = X at *
  generalize limbs y = Y at *
  subst e1; subst e2
  have HX := Lib.hid hx; have HY := Lib.hid hy
  generalize hn : X.length = n at *
  generalize hm : Y.length = m at *
  have hstep := fun (S : List Nat) (i : Nat) (k : Int) (h : CombInv X Y S a b n i k) (hi : i < n) (low : Nat) (k' t : Int) (h1 : t = k + a * (X.getD i 0 : Nat) + b * (Y.getD i 0 : Nat)) (h2 : (low : Int) = t % 1000000000) (h3 : k' = t / 1000000000) => h.step hi hsx hsy ha1 ha2 hb1 hb2 low k' t h1 h2 h3
  have hdone := fun (S : List Nat) (k : Int) (h : CombInv X Y S a b n n k) => h.done hn (by omega) hZ hlt
  have HN := Lib.hid hn; have HM := Lib.hid hm; have HSX := Lib.hid hsx; have HSY := Lib.hid hsy; have HST := Lib.hid hstep; have HDN := Lib.hid hdone
  clear hn hm hx hy hsx hsy hstep hdone hZ hle hlt
  go_enter Tryz.func214, Tryz.ntmps214
  go_wp2_with (at_make; refine wpList_make_full _ rfl _ _ 171 rfl (w.heap.size + 3) 156 i0 (.int .u32 0) 1 Tryz.underlying171 hi hz0 hz1 .i64 .i64 _ _ n rfl rfl ?a1 ?a2 ?a3 ?a4 ?a5 ?_)
  case a1 => simp
  case a2 => simp
  case a3 => rw [hz2]; omega
  case a4 => unfold maxLen; omega
  case a5 => simp
  intro W0 hown hg
  have A := (three_new w (Value.slice ao n c) (Value.slice ap m d) (Value.slice none 0 0) 173 173 173).boxes
  have hb0 := blk_of_made hown
  clear hown
  generalize (((w.alloc (Obj.cells #[Value.slice ao n c] 173)).alloc (Obj.cells #[Value.slice ap m d] 173)).alloc (Obj.cells #[Value.slice none 0 0] 173)) = V0 at A hg
  generalize hgg : w.heap.size + 1 + 1 + 1 = g at hb0 ⊢
  have HG := Lib.hid hgg; clear hgg
  have B := A.mono (below_of_grown hg)
  clear A hg
  have k1 := B.c1
  go_wp2_with fail
  have HB0 := Lib.hid hb0; clear hb0 k1
  go_loopw [10, 21] (fun cv iv wr => ∃ (i : Nat) (k : Int) (S : List Nat), i ≤ n ∧ iv = .int .i64 i ∧ cv = .int .i64 k ∧ Blk wr g S ∧ CombInv X Y S a b n i k ∧ W0.grownBy wr (some g)) (fun _ iv _ => n - (intOf iv).toNat)
  case atStart => exact ⟨0, 0, _, Nat.zero_le _, rfl, rfl, HB0.out, CombInv.start X Y a b n, grown_refl _ _⟩
  case round =>
    obtain ⟨i, k, S, hi, rfl, rfl, hblk, hinv, hgr⟩ := hrel
    have B1 := B.grown hgr (by have := HG.out; omega)
    have d2 := B1.c2
    have hk1 := hinv.lo; have hk2 := hinv.hi; have hSl := hinv.len
    have HI := Lib.hid hinv; have HGR := Lib.hid hgr; have HBL := Lib.hid hblk; have HSL := Lib.hid hSl
    clear hinv hgr hblk hSl
    by_cases hin : i < n
    · obtain ⟨bx, ox, rfl⟩ := HX.out.addr (fun h => by have := HN.out; rw [h] at this; simp at this; omega)
      have cx := (HX.out.mono B1.below).get i (by rw [HN.out]; exact hin)
      have cs := HBL.out.cell i (by rw [HSL.out]; omega)
      have fs := HBL.out.frozen i
      have hst := HST.out S i k HI.out hin
      have hxd := HSX.out.getD i; have hyd := HSY.out.getD i
      have hy0 : m ≤ i → Y.getD i 0 = 0 := fun h => getD_ge _ _ (by rw [HM.out]; exact h)
      have cy : i < m → ∃ by_ oy, ap = some ⟨by_, oy, none⟩ ∧ wr.cell? ⟨by_, oy + i, none⟩ = some (.int .u32 (Y.getD i 0 : Nat)) := fun h => by
        obtain ⟨by_, oy, rfl⟩ := HY.out.addr (fun h0 => by have := HM.out; rw [h0] at this; simp at this; omega)
        exact ⟨by_, oy, rfl, (HY.out.mono B1.below).get i (by rw [HM.out]; exact h)⟩
      have hset := fun (v : Nat) => HBL.out.set i v
      generalize S.getD i 0 = s0 at *
      generalize X.getD i 0 = xd at *
      generalize Y.getD i 0 = yd at *
      have HSE := Lib.hid hset; have HY0 := Lib.hid hy0; have HS := Lib.hid hst
      clear hset hy0 hst
      have pb1 : -1000000000000000000 ≤ a * (xd : Int) ∧ a * (xd : Int) ≤ 1000000000000000000 := by
        have m1 : a * (xd : Int) ≤ 1000000000 * (xd : Int) := Int.mul_le_mul_of_nonneg_right (by omega) (by omega)
        have m2 : (-1000000000) * (xd : Int) ≤ a * (xd : Int) := Int.mul_le_mul_of_nonneg_right (by omega) (by omega)
        omega
      have pb2 : -1000000000000000000 ≤ b * (yd : Int) ∧ b * (yd : Int) ≤ 1000000000000000000 := by
        have m1 : b * (yd : Int) ≤ 1000000000 * (yd : Int) := Int.mul_le_mul_of_nonneg_right (by omega) (by omega)
        have m2 : (-1000000000) * (yd : Int) ≤ b * (yd : Int) := Int.mul_le_mul_of_nonneg_right (by omega) (by omega)
        omega
      obtain ⟨pa, hpa⟩ : ∃ pa, pa = a * (xd : Int) := ⟨_, rfl⟩
      obtain ⟨pb, hpb⟩ : ∃ pb, pb = b * (yd : Int) := ⟨_, rfl⟩
      rw [← hpa] at pb1
      rw [← hpb] at pb2
      rw [← hpa, ← hpb] at HS
      have ra : a * (xd : Int) = pa := hpa.symm
      have rb : b * (yd : Int) = pb := hpb.symm
      obtain ⟨pa1, pa2⟩ := pb1
      obtain ⟨pbl, pbh⟩ := pb2
      obtain ⟨low, hlow⟩ : ∃ low : Nat, (low : Int) = (k + pa + pb) % 1000000000 := ⟨((k + pa + pb) % 1000000000).toNat, by omega⟩
      obtain ⟨hnew, ht1, ht2, hl9⟩ := HS.out low _ _ rfl hlow rfl
      have hset := HSE.out low
      have HNEW := Lib.hid hnew; have HSET := Lib.hid hset; have HLOW := Lib.hid hlow
      clear hnew hset hlow hpa hpb HS HSE
      by_cases him : i < m
      · obtain ⟨by_, oy, rfl, cy'⟩ := cy him
        clear cy
        obtain ⟨T, hT⟩ : ∃ T, k + pa + pb = T := ⟨_, rfl⟩
        rw [hT] at HNEW HLOW ht1 ht2
        by_cases hneg : T < 0
        · rcases tmod_low hneg with ⟨r1, r2, r3⟩ | ⟨r1, r2, r3, r4⟩
          · have hl0 : low = 0 := by have := HLOW.out; omega
            subst hl0
            have hk' := r3
            have HK := Lib.hid hk'; clear r2 r3 hk'
            simp only [Int.natCast_zero] at HSET
            go_wp2
            go_roundw
            case rel => exact ⟨i + 1, _, _, by omega, by go_num, congrArg (Value.int .i64) HK.out, HSET.out, HNEW.out, grown_set HGR.out _ _⟩
            case measure => simp [intOf]; omega
          · obtain ⟨r, hr⟩ : ∃ r, T.tmod 1000000000 = r := ⟨_, rfl⟩
            rw [hr] at r1 r2 r3 r4
            have hlr : r + 1000000000 = (low : Int) := by have := HLOW.out; omega
            rw [hlr] at r4
            have HK := Lib.hid r4; clear r3 r4
            go_wp2
            go_roundw
            case rel => exact ⟨i + 1, _, _, by omega, by go_num, congrArg (Value.int .i64) HK.out, HSET.out, HNEW.out, grown_set HGR.out _ _⟩
            case measure => simp [intOf]; omega
        · have hpos : 0 ≤ T := by omega
          have hr : T % 1000000000 = (low : Int) := HLOW.out.symm
          have hsub : 0 ≤ T - (low : Int) := by have := HLOW.out; omega
          have hkk : (T - (low : Int)) / 1000000000 = T / 1000000000 := by have := HLOW.out; omega
          have HK := Lib.hid hkk; clear hkk hneg
          go_wp2
          go_roundw
          case rel => exact ⟨i + 1, _, _, by omega, by go_num, congrArg (Value.int .i64) HK.out, HSET.out, HNEW.out, grown_set HGR.out _ _⟩
          case measure => simp [intOf]; omega
      · have hyd0 : yd = 0 := HY0.out (by omega)
        subst hyd0
        have hpb0 : pb = 0 := by rw [← rb]; simp
        subst hpb0
        rw [Int.add_zero] at HNEW HLOW ht1 ht2
        clear cy rb
        obtain ⟨T, hT⟩ : ∃ T, k + pa = T := ⟨_, rfl⟩
        rw [hT] at HNEW HLOW ht1 ht2
        by_cases hneg : T < 0
        · rcases tmod_low hneg with ⟨r1, r2, r3⟩ | ⟨r1, r2, r3, r4⟩
          · have hl0 : low = 0 := by have := HLOW.out; omega
            subst hl0
            have hk' := r3
            have HK := Lib.hid hk'; clear r2 r3 hk'
            simp only [Int.natCast_zero] at HSET
            go_wp2
            go_roundw
            case rel => exact ⟨i + 1, _, _, by omega, by go_num, congrArg (Value.int .i64) HK.out, HSET.out, HNEW.out, grown_set HGR.out _ _⟩
            case measure => simp [intOf]; omega
          · obtain ⟨r, hr⟩ : ∃ r, T.tmod 1000000000 = r := ⟨_, rfl⟩
            rw [hr] at r1 r2 r3 r4
            have hlr : r + 1000000000 = (low : Int) := by have := HLOW.out; omega
            rw [hlr] at r4
            have HK := Lib.hid r4; clear r3 r4
            go_wp2
            go_roundw
            case rel => exact ⟨i + 1, _, _, by omega, by go_num, congrArg (Value.int .i64) HK.out, HSET.out, HNEW.out, grown_set HGR.out _ _⟩
            case measure => simp [intOf]; omega
        · have hpos : 0 ≤ T := by omega
          have hr : T % 1000000000 = (low : Int) := HLOW.out.symm
          have hsub : 0 ≤ T - (low : Int) := by have := HLOW.out; omega
          have hkk : (T - (low : Int)) / 1000000000 = T / 1000000000 := by have := HLOW.out; omega
          have HK := Lib.hid hkk; clear hkk hneg
          go_wp2
          go_roundw
          case rel => exact ⟨i + 1, _, _, by omega, by go_num, congrArg (Value.int .i64) HK.out, HSET.out, HNEW.out, grown_set HGR.out _ _⟩
          case measure => simp [intOf]; omega
    · have hi0 : i = n := by omega
      subst hi0
      have hval := HDN.out S k HI.out
      have k5 := B1.c3; have g5 := B1.f3
      have HV := Lib.hid hval; clear hval d2
      go_wp2_with fail
      refine (trimmed_at S i _ _ _ HSL.out (HBL.out.row (by rw [HSL.out]; exact Nat.le_refl _) (by omega)) HI.out.small).mono ?_
      rintro e w4 ⟨v, rfl, hv, hb4⟩
      obtain ⟨ao', c', rfl, hr4⟩ := hv
      have B4 := B1.mono hb4
      have k7 := B4.c3; have g7 := B4.f3
      clear k5 g5
      go_wp2
      refine bodyPost_ret (v := .agg #[.slice ao' (limbs (val S)).length c']) (by simp [results, Tryz.results214, go_sem, cellSet k7]) rfl ?_
      rw [HV.out] at hr4 ⊢
      exact ⟨_, rfl, ⟨ao', c', rfl, hr4.box k7 _⟩, B4.below.setCell (p := ⟨w.heap.size + 1 + 1, 0, none⟩) (by simp; omega) _⟩
end Go.Proofs.YtjobmkdaaionlaaGreatDoor
