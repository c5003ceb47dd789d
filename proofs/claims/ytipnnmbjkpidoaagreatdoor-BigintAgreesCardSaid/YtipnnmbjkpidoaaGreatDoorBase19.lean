import Derived.Test.YtipnnmbjkpidoaaGreatDoorBase17
import Derived.Test.YtipnnmbjkpidoaaGreatDoorBase18
import Derived.Test.YtipnnmbjkpidoaaGreatDoorBase11

set_option linter.unusedVariables false
/-
  bigint: negated, difference, Sub.
-/
namespace Go.Proofs.YtipnnmbjkpidoaaGreatDoor
open Go Go.Proofs Go.RowKit

theorem rbox2_new (w : World) (b1 : Bool) (a1 : Option Addr) (n1 c1 : Nat) : RBox w ((w.alloc (Obj.cells #[.bool b1, .slice a1 n1 c1] 81)).alloc (Obj.cells #[Value.bool false, Value.slice none 0 0] 81)) (w.heap.size + 1) :=
  ⟨by simp, by go_cell, by go_cell, by go_cell, by go_cell, by go_grown⟩

set_option maxHeartbeats 2000000 in
theorem negated_any (y : Int) (vb : Value) (w : World) (hb : IntAt w vb y) :
    Calls Tryz.prog 130 #[vb] w fun e w' => ∃ v', e = .returned v' ∧ IntAt w' v' (-y) ∧ Below w.heap.size w w' := by
  obtain ⟨ap, d, rfl, hrb⟩ := hb
  have P : y < 0 → ∀ W : World, Below w.heap.size w W → Calls Tryz.prog 120 #[.agg #[.slice ap (limbs y.natAbs).length d]] W fun e w' => ∃ v', e = .returned v' ∧ IntAt w' v' (-y) ∧ Below W.heap.size W w' := fun h W hW => by
    have := plus_any y.natAbs _ W ⟨ap, d, rfl, hrb.mono hW⟩
    rwa [show ((y.natAbs : Nat) : Int) = -y by omega] at this
  have M : ¬ y < 0 → ∀ W : World, Below w.heap.size w W → Calls Tryz.prog 123 #[.agg #[.slice ap (limbs y.natAbs).length d]] W fun e w' => ∃ v', e = .returned v' ∧ IntAt w' v' (-y) ∧ Below W.heap.size W w' := fun h W hW => by
    have := minus_any y.natAbs _ W ⟨ap, d, rfl, hrb.mono hW⟩
    rwa [show ((y.natAbs : Nat) : Int) = y by omega] at this
  have KP := Lib.hid P; have KM := Lib.hid M
  clear P M hrb
  generalize (limbs y.natAbs).length = m at *
  by_cases hy : y < 0
  · have KQ := Lib.hid (KP.out hy)
    rw [decide_eq_true hy]
    clear KP KM hy
    generalize -y = z at *
    have R0 := rbox2_new w true ap m d
    go_enter Tryz.func130, Tryz.ntmps130
    go_wp2_with (go_at_call 120; refine (KQ.out _ R0.below).mono ?_; rintro e w2 ⟨v2, rfl, hv2, hb2⟩; refine Hid.out ?_)
    have R2 := R0.mono hb2
    obtain ⟨a2, c2, rfl, hr2⟩ := hv2.open
    clear R0 hb2 hv2
    have k1 := R2.r0; have k2 := R2.r1; have k3 := R2.f0; have k4 := R2.f1
    obtain ⟨hI, hS⟩ := IntAt.stored (w := w) (by omega : w.heap.size ≤ w.heap.size + 1) R2 hr2
    have q0 := hS.q0; have q1 := hS.q1; have hbF := hS.below
    have HI := Lib.hid hI
    clear hI hS hr2
    refine Lib.hid ?_
    go_wp2
    refine bodyPost_ret (v := .agg #[.bool (sgn z), .slice a2 (lenZ z) c2]) (by simp [results, Tryz.results130, go_sem, q0, q1]) rfl ?_
    exact ⟨_, rfl, HI.out, hbF⟩
  · have KQ := Lib.hid (KM.out hy)
    rw [decide_eq_false hy]
    clear KP KM hy
    generalize -y = z at *
    have R0 := rbox2_new w false ap m d
    go_enter Tryz.func130, Tryz.ntmps130
    go_wp2_with (go_at_call 123; refine (KQ.out _ R0.below).mono ?_; rintro e w2 ⟨v2, rfl, hv2, hb2⟩; refine Hid.out ?_)
    have R2 := R0.mono hb2
    obtain ⟨a2, c2, rfl, hr2⟩ := hv2.open
    clear R0 hb2 hv2
    have k1 := R2.r0; have k2 := R2.r1; have k3 := R2.f0; have k4 := R2.f1
    obtain ⟨hI, hS⟩ := IntAt.stored (w := w) (by omega : w.heap.size ≤ w.heap.size + 1) R2 hr2
    have q0 := hS.q0; have q1 := hS.q1; have hbF := hS.below
    have HI := Lib.hid hI
    clear hI hS hr2
    refine Lib.hid ?_
    go_wp2
    refine bodyPost_ret (v := .agg #[.bool (sgn z), .slice a2 (lenZ z) c2]) (by simp [results, Tryz.results130, go_sem, q0, q1]) rfl ?_
    exact ⟨_, rfl, HI.out, hbF⟩

/-- The boxes of difference. -/
structure DBox (w W : World) (ba : Bool) (ao : Option Addr) (n c : Nat) (bb : Bool) (ap : Option Addr) (m d : Nat) : Prop where
  a0 : W.cell? ⟨w.heap.size, 0, none⟩ = some (.bool ba)
  a1 : W.cell? ⟨w.heap.size, 1, none⟩ = some (.slice ao n c)
  b0 : W.cell? ⟨w.heap.size + 1, 0, none⟩ = some (.bool bb)
  b1 : W.cell? ⟨w.heap.size + 1, 1, none⟩ = some (.slice ap m d)
  box : RBox w W (w.heap.size + 1 + 1)
theorem DBox.mono {w W W' : World} {ba bb : Bool} {ao ap : Option Addr} {n c m d : Nat} (h : DBox w W ba ao n c bb ap m d) (g : Below W.heap.size W W') : DBox w W' ba ao n c bb ap m d := by
  have hl := h.box.lt
  exact ⟨(g.cell (p := ⟨w.heap.size, 0, none⟩) (by simp; omega)).trans h.a0, (g.cell (p := ⟨w.heap.size, 1, none⟩) (by simp; omega)).trans h.a1,
    (g.cell (p := ⟨w.heap.size + 1, 0, none⟩) (by simp; omega)).trans h.b0, (g.cell (p := ⟨w.heap.size + 1, 1, none⟩) (by simp; omega)).trans h.b1, h.box.mono g⟩
theorem DBox.keep {w W : World} {ba bb : Bool} {ao ap : Option Addr} {n c m d : Nat} (h : DBox w W ba ao n c bb ap m d) : W.cell? ⟨w.heap.size, 0, none⟩ = some (.bool ba) ∧ W.cell? ⟨w.heap.size, 1, none⟩ = some (.slice ao n c) ∧ W.cell? ⟨w.heap.size + 1, 0, none⟩ = some (.bool bb) ∧ W.cell? ⟨w.heap.size + 1, 1, none⟩ = some (.slice ap m d) :=
  ⟨h.a0, h.a1, h.b0, h.b1⟩
theorem DBox.keepS {w W : World} {ba bb : Bool} {ao ap : Option Addr} {n c m d : Nat} (h : DBox w W ba ao n c bb ap m d) (u0 u1 : Value) : ((W.setCell ⟨w.heap.size + 1 + 1, 0, none⟩ u0).setCell ⟨w.heap.size + 1 + 1, 1, none⟩ u1).cell? ⟨w.heap.size, 0, none⟩ = some (.bool ba) ∧ ((W.setCell ⟨w.heap.size + 1 + 1, 0, none⟩ u0).setCell ⟨w.heap.size + 1 + 1, 1, none⟩ u1).cell? ⟨w.heap.size, 1, none⟩ = some (.slice ao n c) ∧ ((W.setCell ⟨w.heap.size + 1 + 1, 0, none⟩ u0).setCell ⟨w.heap.size + 1 + 1, 1, none⟩ u1).cell? ⟨w.heap.size + 1, 0, none⟩ = some (.bool bb) ∧ ((W.setCell ⟨w.heap.size + 1 + 1, 0, none⟩ u0).setCell ⟨w.heap.size + 1 + 1, 1, none⟩ u1).cell? ⟨w.heap.size + 1, 1, none⟩ = some (.slice ap m d) := by
  refine ⟨?_, ?_, ?_, ?_⟩ <;> rw [World.cell?_setCell_other (h := by simp), World.cell?_setCell_other (h := by simp)]
  · exact h.a0
  · exact h.a1
  · exact h.b0
  · exact h.b1

set_option maxHeartbeats 4000000 in
theorem differenceZ (x y : Int) (va vb : Value) (w : World) (ha : IntAt w va x) (hb : IntAt w vb y) (hlx : (limbs x.natAbs).length ≤ 1000000000000) (hly : (limbs y.natAbs).length ≤ 1000000000000) :
    Calls Tryz.prog 83 #[va, vb] w fun e w' => ∃ v', e = .returned v' ∧ IntAt w' v' (x - y) ∧ Below w.heap.size w w' := by
  have C1 : ∀ W : World, Below w.heap.size w W → Calls Tryz.prog 130 #[vb] W fun e w' => ∃ v', e = .returned v' ∧ IntAt w' v' (-y) ∧ Below W.heap.size W w' := fun W hW => negated_any y vb W (hb.mono hW)
  have C2 : ∀ (W : World) (v : Value), Below w.heap.size w W → IntAt W v (-y) → Calls Tryz.prog 79 #[va, v] W fun e w' => ∃ v', e = .returned v' ∧ IntAt w' v' (x - y) ∧ Below W.heap.size W w' := fun W v hW hv => by
    have := sumZ x (-y) va v W (ha.mono hW) hv hlx (by rw [Int.natAbs_neg]; exact hly)
    rwa [show x + -y = x - y by omega] at this
  have KN := Lib.hid C1; have KS := Lib.hid C2
  obtain ⟨ao, c, rfl, -⟩ := ha
  obtain ⟨ap, d, rfl, -⟩ := hb
  clear C1 C2 hlx hly
  generalize (limbs x.natAbs).length = n at *
  generalize (limbs y.natAbs).length = m at *
  generalize decide (x < 0) = ba at *
  generalize decide (y < 0) = bb at *
  generalize x - y = z at *
  go_enter Tryz.func83, Tryz.ntmps83
  go_wp2_with fail
  have AB : DBox w (((w.alloc (Obj.cells #[.bool ba, .slice ao n c] 81)).alloc (Obj.cells #[.bool bb, .slice ap m d] 81)).alloc (Obj.cells #[Value.bool false, Value.slice none 0 0] 81)) ba ao n c bb ap m d :=
    ⟨by go_cell, by go_cell, by go_cell, by go_cell, rbox3_new w ba bb ao ap n c m d⟩
  generalize (((w.alloc (Obj.cells #[.bool ba, .slice ao n c] 81)).alloc (Obj.cells #[.bool bb, .slice ap m d] 81)).alloc (Obj.cells #[Value.bool false, Value.slice none 0 0] 81)) = W at *
  have AD := AB.mono ((Below.refl _ _).drew)
  have t1 := AD.a0; have t2 := AD.a1; have t3 := AD.b0; have t4 := AD.b1
  go_region_held3 (fun w' => w'.cell? ⟨w.heap.size, 0, none⟩ = some (.bool ba) ∧ w'.cell? ⟨w.heap.size, 1, none⟩ = some (.slice ao n c) ∧ w'.cell? ⟨w.heap.size + 1, 0, none⟩ = some (.bool bb) ∧ w'.cell? ⟨w.heap.size + 1, 1, none⟩ = some (.slice ap m d)) (first | exact A3.keepS _ _ | exact A3.keep | exact A2.keep | exact AD.keep | go_keep) (first
    | (go_at_call 130; refine (KN.out _ AD.box.below).mono ?_; rintro e w2 ⟨v2, rfl, hv2, hb2⟩; have A2 := AD.mono hb2)
    | (go_at_call 79; refine (KS.out _ _ A2.box.below hv2).mono ?_; rintro e w3 ⟨v3, rfl, hv3, hb3⟩; obtain ⟨a2, c2, rfl, hr2⟩ := hv3.open; have A3 := A2.mono hb3; have k1 := A3.box.r0; have k2 := A3.box.r1; have k3 := A3.box.f0; have k4 := A3.box.f1))
  all_goals
    obtain ⟨hI, hS⟩ := IntAt.stored (w := w) (by omega : w.heap.size ≤ w.heap.size + 1 + 1) A3.box hr2
    have q0 := hS.q0; have q1 := hS.q1; have hbF := hS.below
    have HI := Lib.hid hI
    clear hI hS hr2
    go_wp2
    refine bodyPost_ret (v := .agg #[.bool (sgn z), .slice a2 (lenZ z) c2]) (by simp [results, Tryz.results83, go_sem, q0, q1]) rfl ?_
    exact ⟨_, rfl, HI.out, hbF⟩

theorem diff_limbs {s t : ByteArray} {x y : Int} (hs : Str s x) (ht : Str t y) : (limbs (x - y).natAbs).length ≤ 456 := by
  obtain ⟨k, hk⟩ : ∃ k : Nat, k = 4096 := ⟨_, rfl⟩
  refine limbs_of_pow (k := k + 1) ?_ (by omega)
  have h1 := hs.lt (k := k) (by omega)
  have h2 := ht.lt (k := k) (by omega)
  rw [Nat.pow_succ]
  generalize (10 : Nat) ^ k = p at *
  omega

theorem compSub (s t : ByteArray) (x y : Int) (w : World) (hs : Str s x) (ht : Str t y) (htab : Lib.TabIs Tryz.prog w "internal/strconv.uint64pow10" .u64 Lib.pow10Tab) :
    Calls Tryz.prog 77 #[opV 82 83, .string s, .string t] w fun e w' => e = .returned (resV (x - y)) ∧ Below w.heap.size w w' := by
  by_cases h : x.natAbs < 1000000000 ∧ y.natAbs < 1000000000
  · have := compSub_short s t x y (x - y) w hs ht h.1 h.2 (by omega) (by omega) (fun W => subS x y W h.1 h.2) htab
    rwa [← resV_small (r := x - y) (by omega)] at this
  · exact compSub_long s t x y (x - y) w hs ht h (by have := diff_limbs hs ht; omega) (fun W v1 v2 h1 h2 => differenceZ x y v1 v2 W h1 h2 (by have := hs.limbs; omega) (by have := ht.limbs; omega)) htab

set_option maxHeartbeats 1000000 in
theorem subZ (s t : ByteArray) (x y : Int) (w : World) (hs : Str s x) (ht : Str t y) (htab : Lib.TabIs Tryz.prog w "internal/strconv.uint64pow10" .u64 Lib.pow10Tab) :
    Calls Tryz.prog 36 #[.string s, .string t] w fun e w' => e = .returned (resV (x - y)) ∧ Below w.heap.size w w' := by
  have C := compSub s t x y w hs ht htab
  obtain ⟨a, e0, hr⟩ := resV_parts (x - y)
  rw [hr] at C ⊢
  clear hr hs ht htab
  unfold opV at C
  have HC := Lib.hid C; clear C
  go_enter Tryz.func36, Tryz.ntmps36
  go_wp2_with (go_at_call 77; refine HC.out.mono ?_; rintro e w2 ⟨rfl, hb2⟩; refine Hid.out ?_)
  refine Lib.hid ?_
  go_wp2
  refine bodyPost_ret (by simp [results, Tryz.results36, go_sem]; rfl) rfl ?_
  exact ⟨rfl, hb2⟩
end Go.Proofs.YtipnnmbjkpidoaaGreatDoor

/-
  Plain mathematics of a multiplication over limbs.
-/
namespace Go.Proofs.YtipnnmbjkpidoaaGreatDoor

/-- What the inner loop keeps: p0 the limbs before it, a the limb of x at i. -/
structure MulInv (p0 p y : List Nat) (a i j c : Nat) : Prop where
  len : p.length = p0.length
  small : Small p
  rest : p.drop (i + j) = p0.drop (i + j)
  carry : c < 1000000000
  eq : val (p.take (i + j)) + c * 1000000000 ^ (i + j) = val (p0.take (i + j)) + a * 1000000000 ^ i * val (y.take j)

theorem MulInv.start {p0 y : List Nat} {a i : Nat} (hs : Small p0) : MulInv p0 p0 y a i 0 0 :=
  ⟨rfl, hs, rfl, by omega, by simp [val]⟩

theorem mul_lt (a b c p : Nat) (ha : a < 1000000000) (hb : b < 1000000000) (hc : c < 1000000000) (hp : p < 1000000000) : c + (a * b + p) < 1000000000 * 1000000000 := by
  have h : a * b ≤ 999999999 * 999999999 := Nat.mul_le_mul (by omega) (by omega)
  omega

theorem MulInv.step {p0 p y : List Nat} {a i j c : Nat} (h : MulInv p0 p y a i j c) (hi : i + j < p0.length) (ha : a < 1000000000) (hy : Small y) :
    MulInv p0 (p.set (i + j) ((c + (a * y.getD j 0 + p.getD (i + j) 0)) % 1000000000)) y a i (j + 1) ((c + (a * y.getD j 0 + p.getD (i + j) 0)) / 1000000000) := by
  have h1 := h.small.getD (i + j); have h2 := hy.getD j; have h3 := h.carry; have h4 := h.eq
  have e0 := getD_of_drop h.rest
  have hlt := mul_lt a (y.getD j 0) c (p.getD (i + j) 0) ha h2 h3 h1
  have hd := Nat.div_add_mod (c + (a * y.getD j 0 + p.getD (i + j) 0)) 1000000000
  refine ⟨by simp [h.len], h.small.set _ _ (Nat.mod_lt _ (by decide)), drop_set_succ h.rest, Nat.div_lt_of_lt_mul hlt, ?_⟩
  rw [← Nat.add_assoc i j 1, val_set_take _ _ _ (by rw [h.len]; exact hi), val_take_getD p0, val_take_getD y, ← e0, Nat.pow_succ]
  generalize (c + (a * y.getD j 0 + p.getD (i + j) 0)) / 1000000000 = u at *
  generalize (c + (a * y.getD j 0 + p.getD (i + j) 0)) % 1000000000 = v at *
  have ep : 1000000000 ^ (i + j) = 1000000000 ^ i * 1000000000 ^ j := Nat.pow_add ..
  have e7 : (1000000000 * u + v) * 1000000000 ^ (i + j) = (c + (a * y.getD j 0 + p.getD (i + j) 0)) * 1000000000 ^ (i + j) := by rw [hd]
  rw [ep] at h4 e7 ⊢
  clear ep hd hlt h1 h2 h3 e0 hy ha hi h
  generalize 1000000000 ^ i = P at *
  generalize 1000000000 ^ j = Q at *
  generalize p.getD (i + j) 0 = r at *
  generalize y.getD j 0 = s at *
  generalize val (List.take (i + j) p) = A at *
  generalize val (List.take (i + j) p0) = A0 at *
  generalize val (List.take j y) = Z at *
  grind

/-- A round of the outer loop. -/
theorem MulInv.done {x p0 p y : List Nat} {i m c : Nat} (h : MulInv p0 p y (x.getD i 0) i m c) (hm : y.length = m) (hl : i + m < p0.length)
    (h0 : val (p0.take (i + m)) = val (x.take i) * val y) :
    Small (p.set (i + m) c) ∧ (p.set (i + m) c).length = p0.length ∧ val ((p.set (i + m) c).take (i + 1 + m)) = val (x.take (i + 1)) * val y := by
  refine ⟨h.small.set _ _ h.carry, by simp [h.len], ?_⟩
  rw [show i + 1 + m = i + m + 1 by omega, val_set_take _ _ _ (by rw [h.len]; exact hl), h.eq, h0, val_take_getD, List.take_of_length_le (l := y) (by omega), Nat.add_mul]

end Go.Proofs.YtipnnmbjkpidoaaGreatDoor
