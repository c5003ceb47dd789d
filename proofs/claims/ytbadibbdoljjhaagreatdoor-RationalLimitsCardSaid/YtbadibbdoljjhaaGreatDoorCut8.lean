import Derived.Test.YtbadibbdoljjhaaGreatDoorCut7
import Derived.Test.YtbadibbdoljjhaaGreatDoorCut5
import Derived.Test.YtbadibbdoljjhaaGreatDoorCut3

set_option linter.unusedVariables false
/-
  bigint: negated, difference, Sub.
-/
namespace Go.Proofs.YtbadibbdoljjhaaGreatDoor
open Go Go.Proofs Go.RowKit

theorem rbox2_new (w : World) (b1 : Bool) (a1 : Option Addr) (n1 c1 : Nat) : RBox w ((w.alloc (Obj.cells #[.bool b1, .slice a1 n1 c1] 95)).alloc (Obj.cells #[Value.bool false, Value.slice none 0 0] 95)) (w.heap.size + 1) :=
  ⟨by simp, by go_cell, by go_cell, by go_cell, by go_cell, by go_grown⟩

set_option maxHeartbeats 2000000 in
theorem negated_any (y : Int) (vb : Value) (w : World) (hb : IntAt w vb y) :
    Calls Tryz.prog 165 #[vb] w fun e w' => ∃ v', e = .returned v' ∧ IntAt w' v' (-y) ∧ Below w.heap.size w w' := by
  obtain ⟨ap, d, rfl, hrb⟩ := hb
  have P : y < 0 → ∀ W : World, Below w.heap.size w W → Calls Tryz.prog 137 #[.agg #[.slice ap (limbs y.natAbs).length d]] W fun e w' => ∃ v', e = .returned v' ∧ IntAt w' v' (-y) ∧ Below W.heap.size W w' := fun h W hW => by
    have := plus_any y.natAbs _ W ⟨ap, d, rfl, hrb.mono hW⟩
    rwa [show ((y.natAbs : Nat) : Int) = -y by omega] at this
  have M : ¬ y < 0 → ∀ W : World, Below w.heap.size w W → Calls Tryz.prog 171 #[.agg #[.slice ap (limbs y.natAbs).length d]] W fun e w' => ∃ v', e = .returned v' ∧ IntAt w' v' (-y) ∧ Below W.heap.size W w' := fun h W hW => by
    have := minus_any y.natAbs _ W ⟨ap, d, rfl, hrb.mono hW⟩
    rwa [show ((y.natAbs : Nat) : Int) = y by omega] at this
  have KP := Lib.hid P; have KM := Lib.hid M
  clear P M hrb
  generalize (limbs y.natAbs).length = m at *
  by_cases hy : y < 0
  · have KQ := Lib.hid (KP.out hy)
    rw [decide_eq_true hy]
    clear KP KM hy
    generalize -y = z at *
    have R0 := rbox2_new w true ap m d
    go_enter Tryz.func165, Tryz.ntmps165
    go_wp2_with (go_at_call 137; refine (KQ.out _ R0.below).mono ?_; rintro e w2 ⟨v2, rfl, hv2, hb2⟩; refine Hid.out ?_)
    have R2 := R0.mono hb2
    obtain ⟨a2, c2, rfl, hr2⟩ := hv2.open
    clear R0 hb2 hv2
    have k1 := R2.r0; have k2 := R2.r1; have k3 := R2.f0; have k4 := R2.f1
    obtain ⟨hI, hS⟩ := IntAt.stored (w := w) (by omega : w.heap.size ≤ w.heap.size + 1) R2 hr2
    have q0 := hS.q0; have q1 := hS.q1; have hbF := hS.below
    have HI := Lib.hid hI
    clear hI hS hr2
    refine Lib.hid ?_
    go_wp2
    refine bodyPost_ret (v := .agg #[.bool (sgn z), .slice a2 (lenZ z) c2]) (by simp [results, Tryz.results165, go_sem, q0, q1]) rfl ?_
    exact ⟨_, rfl, HI.out, hbF⟩
  · have KQ := Lib.hid (KM.out hy)
    rw [decide_eq_false hy]
    clear KP KM hy
    generalize -y = z at *
    have R0 := rbox2_new w false ap m d
    go_enter Tryz.func165, Tryz.ntmps165
    go_wp2_with (go_at_call 171; refine (KQ.out _ R0.below).mono ?_; rintro e w2 ⟨v2, rfl, hv2, hb2⟩; refine Hid.out ?_)
    have R2 := R0.mono hb2
    obtain ⟨a2, c2, rfl, hr2⟩ := hv2.open
    clear R0 hb2 hv2
    have k1 := R2.r0; have k2 := R2.r1; have k3 := R2.f0; have k4 := R2.f1
    obtain ⟨hI, hS⟩ := IntAt.stored (w := w) (by omega : w.heap.size ≤ w.heap.size + 1) R2 hr2
    have q0 := hS.q0; have q1 := hS.q1; have hbF := hS.below
    have HI := Lib.hid hI
    clear hI hS hr2
    refine Lib.hid ?_
    go_wp2
    refine bodyPost_ret (v := .agg #[.bool (sgn z), .slice a2 (lenZ z) c2]) (by simp [results, Tryz.results165, go_sem, q0, q1]) rfl ?_
    exact ⟨_, rfl, HI.out, hbF⟩

/-- The boxes of difference. -/
structure DBox (w W : World) (ba : Bool) (ao : Option Addr) (n c : Nat) (bb : Bool) (ap : Option Addr) (m d : Nat) : Prop where
  a0 : W.cell? ⟨w.heap.size, 0, none⟩ = some (.bool ba)
  a1 : W.cell? ⟨w.heap.size, 1, none⟩ = some (.slice ao n c)
  b0 : W.cell? ⟨w.heap.size + 1, 0, none⟩ = some (.bool bb)
  b1 : W.cell? ⟨w.heap.size + 1, 1, none⟩ = some (.slice ap m d)
  box : RBox w W (w.heap.size + 1 + 1)
theorem DBox.mono {w W W' : World} {ba bb : Bool} {ao ap : Option Addr} {n c m d : Nat} (h : DBox w W ba ao n c bb ap m d) (g : Below W.heap.size W W') : DBox w W' ba ao n c bb ap m d := by
  have hl := h.box.lt
  exact ⟨(g.cell (p := ⟨w.heap.size, 0, none⟩) (by simp; omega)).trans h.a0, (g.cell (p := ⟨w.heap.size, 1, none⟩) (by simp; omega)).trans h.a1,
    (g.cell (p := ⟨w.heap.size + 1, 0, none⟩) (by simp; omega)).trans h.b0, (g.cell (p := ⟨w.heap.size + 1, 1, none⟩) (by simp; omega)).trans h.b1, h.box.mono g⟩
theorem DBox.keep {w W : World} {ba bb : Bool} {ao ap : Option Addr} {n c m d : Nat} (h : DBox w W ba ao n c bb ap m d) : W.cell? ⟨w.heap.size, 0, none⟩ = some (.bool ba) ∧ W.cell? ⟨w.heap.size, 1, none⟩ = some (.slice ao n c) ∧ W.cell? ⟨w.heap.size + 1, 0, none⟩ = some (.bool bb) ∧ W.cell? ⟨w.heap.size + 1, 1, none⟩ = some (.slice ap m d) :=
  ⟨h.a0, h.a1, h.b0, h.b1⟩
theorem DBox.keepS {w W : World} {ba bb : Bool} {ao ap : Option Addr} {n c m d : Nat} (h : DBox w W ba ao n c bb ap m d) (u0 u1 : Value) : ((W.setCell ⟨w.heap.size + 1 + 1, 0, none⟩ u0).setCell ⟨w.heap.size + 1 + 1, 1, none⟩ u1).cell? ⟨w.heap.size, 0, none⟩ = some (.bool ba) ∧ ((W.setCell ⟨w.heap.size + 1 + 1, 0, none⟩ u0).setCell ⟨w.heap.size + 1 + 1, 1, none⟩ u1).cell? ⟨w.heap.size, 1, none⟩ = some (.slice ao n c) ∧ ((W.setCell ⟨w.heap.size + 1 + 1, 0, none⟩ u0).setCell ⟨w.heap.size + 1 + 1, 1, none⟩ u1).cell? ⟨w.heap.size + 1, 0, none⟩ = some (.bool bb) ∧ ((W.setCell ⟨w.heap.size + 1 + 1, 0, none⟩ u0).setCell ⟨w.heap.size + 1 + 1, 1, none⟩ u1).cell? ⟨w.heap.size + 1, 1, none⟩ = some (.slice ap m d) := by
  refine ⟨?_, ?_, ?_, ?_⟩ <;> rw [World.cell?_setCell_other (h := by simp), World.cell?_setCell_other (h := by simp)]
  · exact h.a0
  · exact h.a1
  · exact h.b0
  · exact h.b1

set_option maxHeartbeats 4000000 in
theorem differenceZ (x y : Int) (va vb : Value) (w : World) (ha : IntAt w va x) (hb : IntAt w vb y) (hlx : (limbs x.natAbs).length ≤ 1000000000000) (hly : (limbs y.natAbs).length ≤ 1000000000000) :
    Calls Tryz.prog 114 #[va, vb] w fun e w' => ∃ v', e = .returned v' ∧ IntAt w' v' (x - y) ∧ Below w.heap.size w w' := by
  have C1 : ∀ W : World, Below w.heap.size w W → Calls Tryz.prog 165 #[vb] W fun e w' => ∃ v', e = .returned v' ∧ IntAt w' v' (-y) ∧ Below W.heap.size W w' := fun W hW => negated_any y vb W (hb.mono hW)
  have C2 : ∀ (W : World) (v : Value), Below w.heap.size w W → IntAt W v (-y) → Calls Tryz.prog 129 #[va, v] W fun e w' => ∃ v', e = .returned v' ∧ IntAt w' v' (x - y) ∧ Below W.heap.size W w' := fun W v hW hv => by
    have := sumZ x (-y) va v W (ha.mono hW) hv hlx (by rw [Int.natAbs_neg]; exact hly)
    rwa [show x + -y = x - y by omega] at this
  have KN := Lib.hid C1; have KS := Lib.hid C2
  obtain ⟨ao, c, rfl, -⟩ := ha
  obtain ⟨ap, d, rfl, -⟩ := hb
  clear C1 C2 hlx hly
  generalize (limbs x.natAbs).length = n at *
  generalize (limbs y.natAbs).length = m at *
  generalize decide (x < 0) = ba at *
  generalize decide (y < 0) = bb at *
  generalize x - y = z at *
  go_enter Tryz.func114, Tryz.ntmps114
  go_wp2_with fail
  have AB : DBox w (((w.alloc (Obj.cells #[.bool ba, .slice ao n c] 95)).alloc (Obj.cells #[.bool bb, .slice ap m d] 95)).alloc (Obj.cells #[Value.bool false, Value.slice none 0 0] 95)) ba ao n c bb ap m d :=
    ⟨by go_cell, by go_cell, by go_cell, by go_cell, rbox3_new w ba bb ao ap n c m d⟩
  generalize (((w.alloc (Obj.cells #[.bool ba, .slice ao n c] 95)).alloc (Obj.cells #[.bool bb, .slice ap m d] 95)).alloc (Obj.cells #[Value.bool false, Value.slice none 0 0] 95)) = W at *
  have AD := AB.mono ((Below.refl _ _).drew)
  have t1 := AD.a0; have t2 := AD.a1; have t3 := AD.b0; have t4 := AD.b1
  go_region_held3 (fun w' => w'.cell? ⟨w.heap.size, 0, none⟩ = some (.bool ba) ∧ w'.cell? ⟨w.heap.size, 1, none⟩ = some (.slice ao n c) ∧ w'.cell? ⟨w.heap.size + 1, 0, none⟩ = some (.bool bb) ∧ w'.cell? ⟨w.heap.size + 1, 1, none⟩ = some (.slice ap m d)) (first | exact A3.keepS _ _ | exact A3.keep | exact A2.keep | exact AD.keep | go_keep) (first
    | (go_at_call 165; refine (KN.out _ AD.box.below).mono ?_; rintro e w2 ⟨v2, rfl, hv2, hb2⟩; have A2 := AD.mono hb2)
    | (go_at_call 129; refine (KS.out _ _ A2.box.below hv2).mono ?_; rintro e w3 ⟨v3, rfl, hv3, hb3⟩; obtain ⟨a2, c2, rfl, hr2⟩ := hv3.open; have A3 := A2.mono hb3; have k1 := A3.box.r0; have k2 := A3.box.r1; have k3 := A3.box.f0; have k4 := A3.box.f1))
  all_goals
    obtain ⟨hI, hS⟩ := IntAt.stored (w := w) (by omega : w.heap.size ≤ w.heap.size + 1 + 1) A3.box hr2
    have q0 := hS.q0; have q1 := hS.q1; have hbF := hS.below
    have HI := Lib.hid hI
    clear hI hS hr2
    go_wp2
    refine bodyPost_ret (v := .agg #[.bool (sgn z), .slice a2 (lenZ z) c2]) (by simp [results, Tryz.results114, go_sem, q0, q1]) rfl ?_
    exact ⟨_, rfl, HI.out, hbF⟩

theorem diff_limbs {s t : ByteArray} {x y : Int} (hs : Str s x) (ht : Str t y) : (limbs (x - y).natAbs).length ≤ 456 := by
  obtain ⟨k, hk⟩ : ∃ k : Nat, k = 4096 := ⟨_, rfl⟩
  refine limbs_of_pow (k := k + 1) ?_ (by omega)
  have h1 := hs.lt (k := k) (by omega)
  have h2 := ht.lt (k := k) (by omega)
  rw [Nat.pow_succ]
  generalize (10 : Nat) ^ k = p at *
  omega

theorem compSub (s t : ByteArray) (x y : Int) (w : World) (hs : Str s x) (ht : Str t y) (htab : Lib.TabIs Tryz.prog w "internal/strconv.uint64pow10" .u64 Lib.pow10Tab) :
    Calls Tryz.prog 81 #[opV 113 114, .string s, .string t] w fun e w' => e = .returned (resV (x - y)) ∧ Below w.heap.size w w' := by
  by_cases h : x.natAbs < 1000000000 ∧ y.natAbs < 1000000000
  · have := compSub_short s t x y (x - y) w hs ht h.1 h.2 (by omega) (by omega) (fun W => subS x y W h.1 h.2) htab
    rwa [← resV_small (r := x - y) (by omega)] at this
  · exact compSub_long s t x y (x - y) w hs ht h (by have := diff_limbs hs ht; omega) (fun W v1 v2 h1 h2 => differenceZ x y v1 v2 W h1 h2 (by have := hs.limbs; omega) (by have := ht.limbs; omega)) htab

set_option maxHeartbeats 1000000 in
theorem subZ (s t : ByteArray) (x y : Int) (w : World) (hs : Str s x) (ht : Str t y) (htab : Lib.TabIs Tryz.prog w "internal/strconv.uint64pow10" .u64 Lib.pow10Tab) :
    Calls Tryz.prog 53 #[.string s, .string t] w fun e w' => e = .returned (resV (x - y)) ∧ Below w.heap.size w w' := by
  have C := compSub s t x y w hs ht htab
  obtain ⟨a, e0, hr⟩ := resV_parts (x - y)
  rw [hr] at C ⊢
  clear hr hs ht htab
  unfold opV at C
  have HC := Lib.hid C; clear C
  go_enter Tryz.func53, Tryz.ntmps53
  go_wp2_with (go_at_call 81; refine HC.out.mono ?_; rintro e w2 ⟨rfl, hb2⟩; refine Hid.out ?_)
  refine Lib.hid ?_
  go_wp2
  refine bodyPost_ret (by simp [results, Tryz.results53, go_sem]; rfl) rfl ?_
  exact ⟨rfl, hb2⟩
end Go.Proofs.YtbadibbdoljjhaaGreatDoor

/-
  Plain mathematics of a multiplication over limbs.
-/
namespace Go.Proofs.YtbadibbdoljjhaaGreatDoor

/-- What the inner loop keeps: p0 the limbs before it, a the limb of x at i. -/
structure MulInv (p0 p y : List Nat) (a i j c : Nat) : Prop where
  len : p.length = p0.length
  small : Small p
  rest : p.drop (i + j) = p0.drop (i + j)
  carry : c < 1000000000
  eq : val (p.take (i + j)) + c * 1000000000 ^ (i + j) = val (p0.take (i + j)) + a * 1000000000 ^ i * val (y.take j)

theorem MulInv.start {p0 y : List Nat} {a i : Nat} (hs : Small p0) : MulInv p0 p0 y a i 0 0 :=
  ⟨rfl, hs, rfl, by omega, by simp [val]⟩

theorem mul_lt (a b c p : Nat) (ha : a < 1000000000) (hb : b < 1000000000) (hc : c < 1000000000) (hp : p < 1000000000) : c + (a * b + p) < 1000000000 * 1000000000 := by
  have h : a * b ≤ 999999999 * 999999999 := Nat.mul_le_mul (by omega) (by omega)
  omega

theorem MulInv.step {p0 p y : List Nat} {a i j c : Nat} (h : MulInv p0 p y a i j c) (hi : i + j < p0.length) (ha : a < 1000000000) (hy : Small y) :
    MulInv p0 (p.set (i + j) ((c + (a * y.getD j 0 + p.getD (i + j) 0)) % 1000000000)) y a i (j + 1) ((c + (a * y.getD j 0 + p.getD (i + j) 0)) / 1000000000) := by
  have h1 := h.small.getD (i + j); have h2 := hy.getD j; have h3 := h.carry; have h4 := h.eq
  have e0 := getD_of_drop h.rest
  have hlt := mul_lt a (y.getD j 0) c (p.getD (i + j) 0) ha h2 h3 h1
  have hd := Nat.div_add_mod (c + (a * y.getD j 0 + p.getD (i + j) 0)) 1000000000
  refine ⟨by simp [h.len], h.small.set _ _ (Nat.mod_lt _ (by decide)), drop_set_succ h.rest, Nat.div_lt_of_lt_mul hlt, ?_⟩
  rw [← Nat.add_assoc i j 1, val_set_take _ _ _ (by rw [h.len]; exact hi), val_take_getD p0, val_take_getD y, ← e0, Nat.pow_succ]
  generalize (c + (a * y.getD j 0 + p.getD (i + j) 0)) / 1000000000 = u at *
  generalize (c + (a * y.getD j 0 + p.getD (i + j) 0)) % 1000000000 = v at *
  have ep : 1000000000 ^ (i + j) = 1000000000 ^ i * 1000000000 ^ j := Nat.pow_add ..
  have e7 : (1000000000 * u + v) * 1000000000 ^ (i + j) = (c + (a * y.getD j 0 + p.getD (i + j) 0)) * 1000000000 ^ (i + j) := by rw [hd]
  rw [ep] at h4 e7 ⊢
  clear ep hd hlt h1 h2 h3 e0 hy ha hi h
  generalize 1000000000 ^ i = P at *
  generalize 1000000000 ^ j = Q at *
  generalize p.getD (i + j) 0 = r at *
  generalize y.getD j 0 = s at *
  generalize val (List.take (i + j) p) = A at *
  generalize val (List.take (i + j) p0) = A0 at *
  generalize val (List.take j y) = Z at *
  grind

/-- A round of the outer loop. -/
theorem MulInv.done {x p0 p y : List Nat} {i m c : Nat} (h : MulInv p0 p y (x.getD i 0) i m c) (hm : y.length = m) (hl : i + m < p0.length)
    (h0 : val (p0.take (i + m)) = val (x.take i) * val y) :
    Small (p.set (i + m) c) ∧ (p.set (i + m) c).length = p0.length ∧ val ((p.set (i + m) c).take (i + 1 + m)) = val (x.take (i + 1)) * val y := by
  refine ⟨h.small.set _ _ h.carry, by simp [h.len], ?_⟩
  rw [show i + 1 + m = i + m + 1 by omega, val_set_take _ _ _ (by rw [h.len]; exact hl), h.eq, h0, val_take_getD, List.take_of_length_le (l := y) (by omega), Nat.add_mul]

end Go.Proofs.YtbadibbdoljjhaaGreatDoor

/-
  Plain mathematics of the division by one limb.
-/
namespace Go.Proofs.YtbadibbdoljjhaaGreatDoor

/-- The limbs from k on are divided. -/
structure DivInv (x q : List Nat) (y k r : Nat) : Prop where
  len : q.length = x.length
  small : Small q
  lt : r < y
  eq : val (q.drop k) * y + r = val (x.drop k)

theorem val_drop (l : List Nat) (k : Nat) (h : k < l.length) : val (l.drop k) = l.getD k 0 + 1000000000 * val (l.drop (k + 1)) := by
  rw [List.drop_eq_getElem_cons h, val_cons, getD_lt l k h]

theorem div_bound {r a y : Nat} (hr : r < y) (ha : a < 1000000000) : (r * 1000000000 + a) / y < 1000000000 :=
  Nat.div_lt_of_lt_mul (by
    have : (r + 1) * 1000000000 ≤ y * 1000000000 := Nat.mul_le_mul_right _ hr
    omega)

theorem DivInv.start {x : List Nat} {y : Nat} (hy : 0 < y) : DivInv x (List.replicate x.length 0) y x.length 0 :=
  ⟨by simp, Small.replicate _, hy, by simp [val]⟩

theorem DivInv.step {x q : List Nat} {y k r : Nat} (h : DivInv x q y (k + 1) r) (hk : k < x.length) (hx : Small x) :
    DivInv x (q.set k ((r * 1000000000 + x.getD k 0) / y)) y k ((r * 1000000000 + x.getD k 0) % y) := by
  have h1 := hx.getD k; have h2 := h.lt; have h3 := h.eq
  have hkq : k < q.length := by rw [h.len]; exact hk
  have hd := Nat.div_add_mod (r * 1000000000 + x.getD k 0) y
  refine ⟨by simp [h.len], h.small.set _ _ (div_bound h2 h1), Nat.mod_lt _ (by omega), ?_⟩
  rw [val_drop _ _ (by simpa using hkq), val_drop x k hk, List.drop_set_of_lt (by omega)]
  have e : (q.set k ((r * 1000000000 + x.getD k 0) / y)).getD k 0 = (r * 1000000000 + x.getD k 0) / y := by
    rw [getD_lt _ _ (by simpa using hkq), List.getElem_set_self]
  rw [e]
  generalize (r * 1000000000 + x.getD k 0) / y = u at *
  generalize (r * 1000000000 + x.getD k 0) % y = v at *
  generalize x.getD k 0 = a at *
  generalize val (q.drop (k + 1)) = Q at *
  generalize val (x.drop (k + 1)) = X at *
  subst h3
  grind

theorem DivInv.done {x q : List Nat} {y r : Nat} (h : DivInv x q y 0 r) : val q = val x / y ∧ r = val x % y := by
  have h3 := h.eq; have h2 := h.lt
  simp only [List.drop_zero] at h3
  rw [← h3]
  constructor
  · rw [Nat.mul_comm, Nat.mul_add_div (by omega), Nat.div_eq_of_lt h2]; omega
  · rw [Nat.mul_comm, Nat.mul_add_mod, Nat.mod_eq_of_lt h2]

end Go.Proofs.YtbadibbdoljjhaaGreatDoor

/-
  Plain mathematics of scaling and of adding back.
-/
namespace Go.Proofs.YtbadibbdoljjhaaGreatDoor

structure ScaleInv (x s : List Nat) (t i c : Nat) : Prop where
  len : s.length = x.length + 1
  small : Small s
  carry : c < 1000000000
  eq : val (s.take i) + c * 1000000000 ^ i = val (x.take i) * t

theorem ScaleInv.start (x : List Nat) (t : Nat) : ScaleInv x (List.replicate (x.length + 1) 0) t 0 0 :=
  ⟨by simp, Small.replicate _, by omega, by simp [val]⟩

theorem ScaleInv.step {x s : List Nat} {t i c : Nat} (h : ScaleInv x s t i c) (hi : i < x.length) (ht : t < 1000000000) (hx : Small x) :
    ScaleInv x (s.set i ((c + x.getD i 0 * t) % 1000000000)) t (i + 1) ((c + x.getD i 0 * t) / 1000000000) := by
  have h1 := hx.getD i; have h3 := h.carry; have h4 := h.eq
  have hlt := mul_lt (x.getD i 0) t c 0 h1 ht h3 (by decide)
  have hd := Nat.div_add_mod (c + x.getD i 0 * t) 1000000000
  refine ⟨by simp [h.len], h.small.set _ _ (Nat.mod_lt _ (by decide)), Nat.div_lt_of_lt_mul hlt, ?_⟩
  rw [val_set_take _ _ _ (by rw [h.len]; omega), val_take_getD, Nat.pow_succ]
  generalize (c + x.getD i 0 * t) / 1000000000 = u at *
  have e7 : (1000000000 * u + (c + x.getD i 0 * t) % 1000000000) * 1000000000 ^ i = (c + x.getD i 0 * t) * 1000000000 ^ i := by rw [hd]
  generalize (c + x.getD i 0 * t) % 1000000000 = v at *
  clear hd hlt h1 h3 hi ht hx h
  generalize 1000000000 ^ i = P at *
  generalize x.getD i 0 = a at *
  generalize val (List.take i s) = A at *
  generalize val (List.take i x) = Z at *
  grind

theorem ScaleInv.done {x s : List Nat} {t c : Nat} (h : ScaleInv x s t x.length c) :
    Small (s.set x.length c) ∧ (s.set x.length c).length = x.length + 1 ∧ val (s.set x.length c) = val x * t := by
  refine ⟨h.small.set _ _ h.carry, by simp [h.len], ?_⟩
  have e : (s.set x.length c).take (x.length + 1) = s.set x.length c := List.take_of_length_le (by simp [h.len])
  rw [← e, val_set_take _ _ _ (by rw [h.len]; omega), h.eq, List.take_of_length_le (Nat.le_refl _)]

/-- Adding y to the lowest limbs of x. -/
structure BackInv (x0 x y : List Nat) (i c : Nat) : Prop where
  len : x.length = x0.length
  small : Small x
  rest : x.drop i = x0.drop i
  carry : c ≤ 1
  eq : val (x.take i) + c * 1000000000 ^ i = val (x0.take i) + val (y.take i)

theorem BackInv.start {x0 y : List Nat} (hs : Small x0) : BackInv x0 x0 y 0 0 := ⟨rfl, hs, rfl, by omega, by simp [val]⟩

theorem BackInv.step {x0 x y : List Nat} {i c : Nat} (h : BackInv x0 x y i c) (hi : i < x0.length) (hy : Small y) :
    BackInv x0 (x.set i ((y.getD i 0 + (x.getD i 0 + c)) % 1000000000)) y (i + 1) ((y.getD i 0 + (x.getD i 0 + c)) / 1000000000) := by
  have h1 := h.small.getD i; have h2 := hy.getD i; have h3 := h.carry; have h4 := h.eq
  have e0 := getD_of_drop h.rest
  refine ⟨by simp [h.len], h.small.set _ _ (by omega), drop_set_succ h.rest, by omega, ?_⟩
  rw [val_set_take _ _ _ (by rw [h.len]; exact hi), val_take_getD x0, val_take_getD y, ← e0, Nat.pow_succ]
  have hd := Nat.div_add_mod (y.getD i 0 + (x.getD i 0 + c)) 1000000000
  generalize (y.getD i 0 + (x.getD i 0 + c)) / 1000000000 = u at *
  have e7 : (1000000000 * u + (y.getD i 0 + (x.getD i 0 + c)) % 1000000000) * 1000000000 ^ i = (y.getD i 0 + (x.getD i 0 + c)) * 1000000000 ^ i := by rw [hd]
  generalize (y.getD i 0 + (x.getD i 0 + c)) % 1000000000 = v at *
  clear hd h1 h2 h3 hi hy h e0
  generalize 1000000000 ^ i = P at *
  generalize x.getD i 0 = a at *
  generalize y.getD i 0 = b at *
  grind

end Go.Proofs.YtbadibbdoljjhaaGreatDoor

namespace Go.Proofs.YtbadibbdoljjhaaGreatDoor
open Go Go.Proofs Go.RowKit

theorem prod_bound' (t y : Nat) (ht : t < 1000000000) (hy : y < 1000000000) : 0 ≤ (t : Int) * (y : Int) ∧ (t : Int) * (y : Int) ≤ 999999998000000001 := by
  have h : t * y ≤ 999999999 * 999999999 := Nat.mul_le_mul (by omega) (by omega)
  have e : (t : Int) * (y : Int) = ((t * y : Nat) : Int) := by rw [Int.natCast_mul]
  rw [e]; omega

set_option maxHeartbeats 4000000 in
theorem mul_any (x y : Nat) (vx vy : Value) (w : World) (hx : NumAt w vx x) (hy : NumAt w vy y) (hbx : (limbs x).length ≤ 1000000000000) (hby : (limbs y).length ≤ 1000000000000) :
    Calls Tryz.prog 169 #[vx, vy] w (RetN (x * y) w) := by
  obtain ⟨i0, hi, hz0, hz1, hz2⟩ := info_parts infoU32
  obtain ⟨ao, c, rfl, hx⟩ := hx
  obtain ⟨ap, d, rfl, hy⟩ := hy
  have hsx := limbs_small x; have hsy := limbs_small y
  have e1 := val_limbs x; have e2 := val_limbs y
  generalize limbs x = X at *
  generalize limbs y = Y at *
  have HX := Lib.hid hx; have HY := Lib.hid hy
  generalize hn : X.length = n at *
  generalize hm : Y.length = m at *
  have HN := Lib.hid hn; have HM := Lib.hid hm; have HE1 := Lib.hid e1; have HE2 := Lib.hid e2; have HSX := Lib.hid hsx; have HSY := Lib.hid hsy
  clear hn hm e1 e2 hx hy hsx hsy
  go_enter Tryz.func169, Tryz.ntmps169
  go_wp2_with (at_make; refine wpList_make_full _ rfl _ _ 91 rfl (w.heap.size + 3) 159 i0 (.int .u32 0) 1 Tryz.underlying91 hi hz0 hz1 .i64 .i64 _ _ (n + m) rfl rfl ?a1 ?a2 ?a3 ?a4 ?a5 ?_)
  case a1 => simp
  case a2 => simp
  case a3 => rw [hz2]; omega
  case a4 => unfold maxLen; omega
  case a5 => simp
  intro W0 hown hg
  have A := (three_new w (Value.slice ao n c) (Value.slice ap m d) (Value.slice none 0 0) 93 93 93).boxes
  have hb0 := blk_of_made hown
  clear hown
  generalize (((w.alloc (Obj.cells #[Value.slice ao n c] 93)).alloc (Obj.cells #[Value.slice ap m d] 93)).alloc (Obj.cells #[Value.slice none 0 0] 93)) = V0 at A hg
  generalize hgg : w.heap.size + 1 + 1 + 1 = g at hb0 ⊢
  have HG := Lib.hid hgg; clear hgg
  have B := A.mono (below_of_grown hg)
  clear A hg
  have k1 := B.c1; have k2 := B.c2
  go_wp2_with fail
  have HB0 := Lib.hid hb0; clear hb0 k1 k2
  go_loopw [22] (fun iv wr => ∃ (i : Nat) (P : List Nat), i ≤ n ∧ iv = .int .i64 i ∧ Blk wr g P ∧ Small P ∧ P.length = n + m ∧ val (P.take (i + m)) = val (X.take i) * val Y ∧ W0.grownBy wr (some g)) (fun iv _ => n - (intOf iv).toNat)
  case atStart =>
    refine ⟨0, _, Nat.zero_le _, rfl, HB0.out, Small.replicate _, by simp, ?_, grown_refl _ _⟩
    rw [List.take_replicate, val_replicate]; simp [val]
  case round =>
    obtain ⟨wo, rfl⟩ : ∃ wo : World, wo = wr := ⟨_, rfl⟩
    obtain ⟨i, P, hi, rfl, hbl, hsm, hln, hva, hgr⟩ := hrel
    have B1 := B.grown hgr (by have := HG.out; omega)
    have HBL := Lib.hid hbl; have HSM := Lib.hid hsm; have HLN := Lib.hid hln; have HVA := Lib.hid hva; have HGR := Lib.hid hgr
    clear hbl hsm hln hva hgr
    have k2 := B1.c2
    by_cases hin : i < n
    · obtain ⟨bx, ox, rfl⟩ := HX.out.addr (fun h => by have := HN.out; rw [h] at this; simp at this; omega)
      have cx := (HX.out.mono B1.below).get i (by rw [HN.out]; exact hin)
      have ha := HSX.out.getD i
      generalize hae : X.getD i 0 = a at *
      have HAE := Lib.hid hae; clear hae
      go_wp2_with fail
      go_loopw [8, 30] (fun cv jv wr => ∃ (j q : Nat) (S : List Nat), j ≤ m ∧ jv = .int .i64 j ∧ cv = .int .u64 q ∧ Blk wr g S ∧ MulInv P S Y a i j q ∧ wo.grownBy wr (some g)) (fun _ jv _ => m - (intOf jv).toNat)
      case atStart => exact ⟨0, 0, P, Nat.zero_le _, rfl, rfl, HBL.out, MulInv.start HSM.out, grown_refl _ _⟩
      case round =>
        clear cx k2
        obtain ⟨j, q, S, hj, rfl, rfl, hbl, hinv, hgr⟩ := hrel
        have B2 := B1.grown hgr (by have := HG.out; omega)
        have hq := hinv.carry
        have HBS := Lib.hid hbl; have HI := Lib.hid hinv; have HGS := Lib.hid hgr
        clear hbl hinv hgr
        by_cases hjm : j < m
        · obtain ⟨by_, oy, rfl⟩ := HY.out.addr (fun h => by have := HM.out; rw [h] at this; simp at this; omega)
          have cy := (HY.out.mono B2.below).get j (by rw [HM.out]; exact hjm)
          have hSl : i + j < S.length := by rw [HI.out.len, HLN.out]; omega
          have cs := HBS.out.cell (i + j) hSl
          have fs := HBS.out.frozen (i + j)
          have hstep := HI.out.step (by rw [HLN.out]; omega) ha HSY.out
          have hset := HBS.out.set (i + j) ((q + (a * Y.getD j 0 + S.getD (i + j) 0)) % 1000000000)
          have hy1 := HSY.out.getD j
          have hs1 := HI.out.small.getD (i + j)
          generalize Y.getD j 0 = b at *
          generalize S.getD (i + j) 0 = s at *
          obtain ⟨hp1, hp2⟩ := prod_bound' a b ha hy1
          have ec : ((q + (a * b + s) : Nat) : Int) = (q : Int) + ((a : Int) * (b : Int) + (s : Int)) := by rw [Int.natCast_add, Int.natCast_add, Int.natCast_mul]
          have ev : (((q + (a * b + s)) % 1000000000 : Nat) : Int) = ((q : Int) + ((a : Int) * (b : Int) + (s : Int))) % 1000000000 := by omega
          have eq : (((q + (a * b + s)) / 1000000000 : Nat) : Int) = ((q : Int) + ((a : Int) * (b : Int) + (s : Int))) / 1000000000 := by omega
          rw [ev] at hset
          have HST := Lib.hid hstep; have HSE := Lib.hid hset; have EQ := Lib.hid eq
          clear hstep hset ec ev eq hSl
          go_wp2
          go_roundw
          case rel => exact ⟨j + 1, _, _, by omega, by go_num, by rw [← EQ.out], HSE.out, HST.out, grown_set HGS.out _ _⟩
          case measure => simp [intOf]; omega
        · have hj1 : j = m := by omega
          subst hj1
          have k3 := B2.c2
          have hSl : i + j < S.length := by rw [HI.out.len, HLN.out]; omega
          have cs := HBS.out.cell (i + j) hSl
          have fs := HBS.out.frozen (i + j)
          have hset := HBS.out.set (i + j) q
          have hI := HI.out
          rw [← HAE.out] at hI
          have hd := hI.done HM.out (by rw [HLN.out]; omega) HVA.out
          rw [HLN.out] at hd
          have HSE := Lib.hid hset; have HD := Lib.hid hd
          generalize S.getD (i + j) 0 = s at *
          clear hset hd hI hSl
          go_wp2
          go_roundw
          case rel => exact ⟨i + 1, _, by omega, by go_num, HSE.out, HD.out.1, HD.out.2.1, HD.out.2.2, grown_set (grown_trans HGR.out HGS.out) _ _⟩
          case measure => simp [intOf]; omega
    · have hi1 : i = n := by omega
      subst hi1
      have k5 := B1.c3; have g5 := B1.f3
      have hval : val P = x * y := by
        have h1 := HVA.out
        rw [List.take_of_length_le (by rw [HLN.out]; exact Nat.le_refl _), List.take_of_length_le (by rw [HN.out]; exact Nat.le_refl _), HE1.out, HE2.out] at h1
        exact h1
      have HV := Lib.hid hval; clear hval k2
      go_wp2_with fail
      refine (trimmed_at P (i + m) _ _ _ HLN.out (HBL.out.row (by rw [HLN.out]; exact Nat.le_refl _) (by omega)) HSM.out).mono ?_
      rintro e w4 ⟨v, rfl, hv, hb4⟩
      obtain ⟨ao', c', rfl, hr4⟩ := hv
      have B4 := B1.mono hb4
      have k7 := B4.c3; have g7 := B4.f3
      clear k5 g5
      go_wp2
      refine bodyPost_ret (v := .agg #[.slice ao' (limbs (val P)).length c']) (by simp [results, Tryz.results169, go_sem, cellSet k7]) rfl ?_
      rw [HV.out] at hr4 ⊢
      exact ⟨_, rfl, ⟨ao', c', rfl, hr4.box k7 _⟩, B4.below.setCell (p := ⟨w.heap.size + 1 + 1, 0, none⟩) (by simp; omega) _⟩
end Go.Proofs.YtbadibbdoljjhaaGreatDoor

namespace Go.Proofs.YtbadibbdoljjhaaGreatDoor
open Go Go.Proofs Go.RowKit

/-- A multiple, with one limb more, in a new block. -/
def Scaled (x t n : Nat) (w : World) (e : Ending) (w' : World) : Prop :=
  ∃ g Q, e = .returned (.slice (some ⟨g, 0, none⟩) (n + 1) (n + 1)) ∧ w.heap.size ≤ g ∧ Blk w' g Q ∧ Small Q ∧ Q.length = n + 1 ∧ val Q = x * t ∧ Below w.heap.size w w'

set_option maxHeartbeats 2000000 in
theorem scaled_any (ao : Option Addr) (c n : Nat) (X : List Nat) (t : Nat) (w : World) (hx : RowAt w ao c X) (hX : Small X) (hn : X.length = n) (ht : t < 1000000000) (hbig : n ≤ 1000000000000) :
    Calls Tryz.prog 232 #[.slice ao n c, .int .u32 t] w (Scaled (val X) t n w) := by
  obtain ⟨i0, hi, hz0, hz1, hz2⟩ := info_parts infoU32
  have HX := Lib.hid hx; have HSX := Lib.hid hX; have HN := Lib.hid hn
  clear hx hX hn
  go_enter Tryz.func232, Tryz.ntmps232
  go_wp2_with (at_make; refine wpList_make_full _ rfl _ _ 91 rfl w.heap.size 159 i0 (.int .u32 0) 1 Tryz.underlying91 hi hz0 hz1 .i64 .i64 _ _ (n + 1) rfl rfl ?a1 ?a2 ?a3 ?a4 ?a5 ?_)
  case a1 => simp
  case a2 => simp
  case a3 => rw [hz2]; omega
  case a4 => unfold maxLen; omega
  case a5 => exact Nat.le_refl _
  intro W0 hown hg
  have hb0 := blk_of_made hown
  clear hown
  generalize hgg : w.heap.size = g at hb0 ⊢
  have HG := Lib.hid hgg; clear hgg
  have hB := below_of_grown hg
  clear hg
  go_wp2_with fail
  have HB0 := Lib.hid hb0; have HB := Lib.hid hB; clear hb0 hB
  go_loopw [6, 15] (fun cv iv wr => ∃ (i q : Nat) (S : List Nat), i ≤ n ∧ iv = .int .i64 i ∧ cv = .int .u64 q ∧ Blk wr g S ∧ ScaleInv X S t i q ∧ W0.grownBy wr (some g)) (fun _ iv _ => n - (intOf iv).toNat)
  case atStart => exact ⟨0, 0, _, Nat.zero_le _, rfl, rfl, HB0.out, by rw [← HN.out]; exact ScaleInv.start X t, grown_refl _ _⟩
  case round =>
    obtain ⟨i, q, S, hi, rfl, rfl, hbl, hinv, hgr⟩ := hrel
    have hq := hinv.carry
    have HBL := Lib.hid hbl; have HI := Lib.hid hinv; have HGR := Lib.hid hgr
    clear hbl hinv hgr
    by_cases hin : i < n
    · obtain ⟨bx, ox, rfl⟩ := HX.out.addr (fun h => by have := HN.out; rw [h] at this; simp at this; omega)
      have hbw : Below w.heap.size w wr := below_grown HB.out HGR.out (by have := HG.out; omega)
      have cx := (HX.out.mono hbw).get i (by rw [HN.out]; exact hin)
      have cs := HBL.out.cell i (by rw [HI.out.len, HN.out]; omega)
      have fs := HBL.out.frozen i
      have hstep := HI.out.step (by rw [HN.out]; exact hin) ht HSX.out
      have hset := HBL.out.set i ((q + X.getD i 0 * t) % 1000000000)
      have ha := HSX.out.getD i
      generalize X.getD i 0 = a at *
      generalize S.getD i 0 = s at *
      obtain ⟨hp1, hp2⟩ := prod_bound' a t ha ht
      have ec : ((q + a * t : Nat) : Int) = (q : Int) + (a : Int) * (t : Int) := by rw [Int.natCast_add, Int.natCast_mul]
      have ev : (((q + a * t) % 1000000000 : Nat) : Int) = ((q : Int) + (a : Int) * (t : Int)) % 1000000000 := by omega
      have eq : (((q + a * t) / 1000000000 : Nat) : Int) = ((q : Int) + (a : Int) * (t : Int)) / 1000000000 := by omega
      rw [ev] at hset
      have HST := Lib.hid hstep; have HSE := Lib.hid hset; have EQ := Lib.hid eq
      clear hstep hset ec ev eq hbw
      go_wp2
      go_roundw
      case rel => exact ⟨i + 1, _, _, by omega, by go_num, by rw [← EQ.out], HSE.out, HST.out, grown_set HGR.out _ _⟩
      case measure => simp [intOf]; omega
    · have hi1 : i = n := by omega
      subst hi1
      have cs := HBL.out.cell i (by rw [HI.out.len, HN.out]; omega)
      have fs := HBL.out.frozen i
      have hset := HBL.out.set i q
      have hd : Small (S.set i q) ∧ (S.set i q).length = i + 1 ∧ val (S.set i q) = val X * t := by
        have h1 := HI.out
        have e := HN.out
        subst e
        exact h1.done
      generalize S.getD i 0 = s at *
      have HSE := Lib.hid hset; have HD := Lib.hid hd
      clear hset hd
      go_wp2
      go_ret
      exact ⟨g, _, rfl, by rw [HG.out]; exact Nat.le_refl _, HSE.out, HD.out.1, HD.out.2.1, HD.out.2.2, below_grown HB.out (grown_set HGR.out _ _) (by have := HG.out; omega)⟩

set_option maxHeartbeats 2000000 in
theorem addBack_any (b c d n m : Nat) (ap : Option Addr) (A X Y C : List Nat) (w : World) (hb : Blk w b (A ++ X ++ C)) (hX : Small X) (hy : RowAt w ap d Y) (hY : Small Y)
    (hyb : ∀ b' o, ap = some ⟨b', o, none⟩ → Y ≠ [] → b' ≠ b) (hn : X.length = n) (hm : Y.length = m) (hmn : m ≤ n) (hnb : n ≤ 1000000000000) :
    Calls Tryz.prog 249 #[.slice (some ⟨b, A.length, none⟩) n c, .slice ap m d] w fun e w' =>
      ∃ q X', e = .returned (.tuple #[]) ∧ Blk w' b (A ++ X' ++ C) ∧ BackInv X X' Y m q ∧ w.grownBy w' (some b) := by
  have HB := Lib.hid hb; have HX := Lib.hid hX; have HYR := Lib.hid hy; have HY := Lib.hid hY; have HYB := Lib.hid hyb; have HN := Lib.hid hn; have HM := Lib.hid hm; have HMN := Lib.hid hmn
  clear hb hX hy hY hyb hn hm hmn
  generalize ho : A.length = o
  have HO := Lib.hid ho; clear ho
  go_enter Tryz.func249, Tryz.ntmps249
  go_wp2_with fail
  go_loopw [4, 9] (fun cv iv wr => ∃ (i q : Nat) (S : List Nat), i ≤ m ∧ iv = .int .i64 i ∧ cv = .int .u32 q ∧ Blk wr b (A ++ S ++ C) ∧ BackInv X S Y i q ∧ w.grownBy wr (some b)) (fun _ iv _ => m - (intOf iv).toNat)
  case atStart => exact ⟨0, 0, X, Nat.zero_le _, rfl, rfl, HB.out, BackInv.start HX.out, grown_refl _ _⟩
  case round =>
    obtain ⟨i, q, S, hi, rfl, rfl, hbl, hinv, hgr⟩ := hrel
    have hq := hinv.carry
    have HBL := Lib.hid hbl; have HI := Lib.hid hinv; have HG := Lib.hid hgr; clear hbl hinv hgr
    by_cases him : i < m
    · have hmn := HMN.out
      have hin : i < S.length := by have := HI.out.len; have := HN.out; omega
      have hYne : Y ≠ [] := fun h => by have := HM.out; rw [h] at this; simp at this; omega
      obtain ⟨b', o', rfl⟩ := HYR.out.addr hYne
      have hne := HYB.out b' o' rfl hYne
      have cy : wr.cell? ⟨b', o' + i, none⟩ = some (.int .u32 (Y.getD i 0 : Nat)) := gcell HG.out (HYR.out.get i (by rw [HM.out]; exact him)) (by simp; exact hne)
      have cx : wr.cell? ⟨b, o + i, none⟩ = some (.int .u32 (S.getD i 0 : Nat)) := by rw [← HO.out]; have := HBL.out.cell (A.length + i) (by simp; omega); rwa [getD_mid _ _ _ _ hin] at this
      have fx : wr.frozen? ⟨b, o + i, none⟩ = false := HBL.out.frozen _
      have hstep := HI.out.step (by have := HI.out.len; omega) HY.out
      have hset : ∀ v, Blk (wr.setCell ⟨b, o + i, none⟩ (.int .u32 ((v : Nat) : Int))) b (A ++ S.set i v ++ C) := fun v => by have := HBL.out.set (A.length + i) v; rw [set_mid _ _ _ _ _ hin, HO.out] at this; exact this
      have hy1 := HY.out.getD i
      have hx1 := HI.out.small.getD i
      generalize Y.getD i 0 = y at *
      generalize S.getD i 0 = a at *
      have h2 := hset ((y + (a + q)) % 1000000000)
      have ev : (((y + (a + q)) % 1000000000 : Nat) : Int) = ((y : Int) + ((a : Int) + (q : Int))) % 1000000000 := by omega
      have eq : (((y + (a + q)) / 1000000000 : Nat) : Int) = ((y : Int) + ((a : Int) + (q : Int))) / 1000000000 := by omega
      rw [ev] at h2
      have H2 := Lib.hid h2; have HST := Lib.hid hstep; have EQ := Lib.hid eq
      have hil : i < n := by omega
      have HHN := Lib.hid hne
      clear hstep hset hne hYne hin hmn h2 ev eq
      go_wp2
      go_roundw
      case rel => exact ⟨i + 1, _, _, by omega, by go_num, by rw [← EQ.out], H2.out, HST.out, grown_set HG.out _ _⟩
      case measure => simp [intOf]; omega
    · have hi0 : i = m := by omega
      subst hi0
      go_wp2
      go_end0
      exact ⟨q, S, rfl, HBL.out, HI.out, HG.out⟩
end Go.Proofs.YtbadibbdoljjhaaGreatDoor

/-
  Plain mathematics of a guessed limb of a quotient.
-/
namespace Go.Proofs.YtbadibbdoljjhaaGreatDoor

/-- x and y by their highest limbs; P is the weight of the limb x2. -/
structure Heads (x y top next head x2 P : Nat) : Prop where
  pos : 0 < P
  half : 500000000 ≤ top
  topB : top < 1000000000
  nextB : next < 1000000000
  x2B : x2 < 1000000000
  yl : (top * 1000000000 + next) * P ≤ y
  yu : y < (top * 1000000000 + next + 1) * P
  xl : (head * 1000000000 + x2) * P ≤ x
  xu : x < (head * 1000000000 + x2 + 1) * P
  lt : x < y * 1000000000

theorem Heads.ypos {x y top next head x2 P : Nat} (h : Heads x y top next head x2 P) : 0 < y := by
  have h1 := h.yl; have h2 := h.pos; have h3 := h.half
  have : 1 * 1 ≤ (top * 1000000000 + next) * P := Nat.mul_le_mul (by omega) h2
  omega

theorem Heads.head_lt {x y top next head x2 P : Nat} (h : Heads x y top next head x2 P) : head < (top + 1) * 1000000000 := by
  rcases Nat.lt_or_ge head ((top + 1) * 1000000000) with h1 | h1
  · exact h1
  · exfalso
    have a1 := h.xl; have a2 := h.yu; have a3 := h.lt; have a4 := h.nextB
    have b1 : ((top + 1) * 1000000000 * 1000000000) * P ≤ (head * 1000000000 + x2) * P := Nat.mul_le_mul_right _ (Nat.le_trans (Nat.mul_le_mul_right _ h1) (Nat.le_add_right _ _))
    have b2 : (top * 1000000000 + next + 1) * P ≤ ((top + 1) * 1000000000) * P := Nat.mul_le_mul_right _ (by omega)
    have b3 : ((top + 1) * 1000000000 * 1000000000) * P = ((top + 1) * 1000000000) * P * 1000000000 := by grind
    omega

theorem Heads.q_lt {x y top next head x2 P : Nat} (h : Heads x y top next head x2 P) : x / y < 1000000000 :=
  Nat.div_lt_of_lt_mul h.lt

/-- What the loop keeps. -/
structure GuessInv (x y top head g r : Nat) : Prop where
  eq : g * top + r = head
  ge : x / y ≤ g
  gB : g ≤ 1000000001
  rB : r < 2000000000

theorem head_aux (head top : Nat) (h : head < (top + 1) * 1000000000) (ht : 500000000 ≤ top) : head < top * 1000000002 := by
  rw [Nat.add_mul] at h
  have e : top * 1000000002 = top * 1000000000 + top * 2 := by rw [← Nat.mul_add]
  rw [e]; omega

theorem Heads.start {x y top next head x2 P : Nat} (h : Heads x y top next head x2 P) : GuessInv x y top head (head / top) (head % top) := by
  have ht := h.half
  have hh := h.head_lt
  have htB := h.topB
  refine ⟨by have := Nat.div_add_mod head top; rw [Nat.mul_comm]; exact this, ?_, ?_, by have := Nat.mod_lt head (show 0 < top by omega); omega⟩
  · refine (Nat.le_div_iff_mul_le (by omega)).2 ?_
    have h1 : x / y * y ≤ x := Nat.div_mul_le_self x y
    have h2 := h.yl; have h3 := h.xu; have h4 := h.x2B
    have h5 : x / y * ((top * 1000000000) * P) ≤ x / y * y := Nat.mul_le_mul_left _ (Nat.le_trans (Nat.mul_le_mul_right _ (by omega)) h2)
    have h6 : (head * 1000000000 + x2 + 1) * P ≤ ((head + 1) * 1000000000) * P := Nat.mul_le_mul_right _ (by omega)
    have h7 : x / y * ((top * 1000000000) * P) = (x / y * top) * (1000000000 * P) := by grind
    have h8 : ((head + 1) * 1000000000) * P = (head + 1) * (1000000000 * P) := by grind
    have h9 : (x / y * top) * (1000000000 * P) < (head + 1) * (1000000000 * P) := by omega
    have := Nat.lt_of_mul_lt_mul_right h9
    omega
  · have : head / top < 1000000002 := Nat.div_lt_of_lt_mul (head_aux head top hh ht)
    exact Nat.le_of_lt_succ this

theorem GuessInv.step {x y top next head x2 P g r : Nat} (h : Heads x y top next head x2 P) (k : GuessInv x y top head g r)
    (hr : r < 1000000000) (hc : 1000000000 ≤ g ∨ r * 1000000000 + x2 < g * next) : 0 < g ∧ GuessInv x y top head (g - 1) (r + top) := by
  have hq := h.q_lt
  have htB := h.topB
  have hg : x / y < g := by
    rcases hc with hc | hc
    · omega
    · refine (Nat.div_lt_iff_lt_mul h.ypos).2 ?_
      have h1 := h.yl; have h2 := h.xu; have h3 := k.eq
      have h4 : g * ((top * 1000000000 + next) * P) ≤ g * y := Nat.mul_le_mul_left _ h1
      have h5 : g * ((top * 1000000000 + next) * P) = ((g * top) * 1000000000 + g * next) * P := by grind
      have h6 : (head * 1000000000 + x2 + 1) * P ≤ ((g * top) * 1000000000 + g * next) * P := Nat.mul_le_mul_right _ (by omega)
      omega
  have hg0 : 0 < g := Nat.zero_lt_of_lt hg
  refine ⟨hg0, ⟨?_, Nat.le_sub_one_of_lt hg, by have := k.gB; omega, by omega⟩⟩
  have h3 := k.eq
  obtain ⟨g', rfl⟩ : ∃ g', g = g' + 1 := ⟨g - 1, by omega⟩
  rw [Nat.add_sub_cancel]
  rw [Nat.add_mul] at h3
  omega

theorem GuessInv.done {x y top next head x2 P g r : Nat} (h : Heads x y top next head x2 P) (k : GuessInv x y top head g r)
    (hc : ¬ r < 1000000000 ∨ (¬ 1000000000 ≤ g ∧ ¬ r * 1000000000 + x2 < g * next)) : x / y ≤ g ∧ g ≤ x / y + 1 ∧ g < 1000000000 := by
  have h3 := k.eq; have hh := h.head_lt; have ht := h.half; have htB := h.topB; have hn := h.nextB
  refine ⟨k.ge, ?_⟩
  rcases hc with hc | ⟨hc1, hc2⟩
  · have hgB : g < 1000000000 := by
      rcases Nat.lt_or_ge g 1000000000 with h1 | h1
      · exact h1
      · have : 1000000000 * top ≤ g * top := Nat.mul_le_mul_right _ h1
        omega
    have hle : g ≤ x / y := by
      refine (Nat.le_div_iff_mul_le h.ypos).2 ?_
      have h1 := h.yu; have h2 := h.xl
      have h4 : g * y ≤ g * ((top * 1000000000 + next + 1) * P) := Nat.mul_le_mul_left _ (by omega)
      have h5 : g * ((top * 1000000000 + next + 1) * P) ≤ g * ((top * 1000000000 + 1000000000) * P) := Nat.mul_le_mul_left _ (Nat.mul_le_mul_right _ (by omega))
      have h6 : g * ((top * 1000000000 + 1000000000) * P) = ((g * top) * 1000000000 + g * 1000000000) * P := by grind
      have h7 : ((g * top) * 1000000000 + g * 1000000000) * P ≤ (head * 1000000000 + x2) * P := Nat.mul_le_mul_right _ (by omega)
      omega
    exact ⟨Nat.le_succ_of_le hle, hgB⟩
  · refine ⟨?_, by omega⟩
    rcases Nat.eq_zero_or_pos g with h0 | h0
    · rw [h0]; exact Nat.zero_le _
    obtain ⟨g', rfl⟩ : ∃ g', g = g' + 1 := ⟨g - 1, by omega⟩
    have hle : g' ≤ x / y := by
      refine (Nat.le_div_iff_mul_le h.ypos).2 ?_
      have h1 := h.yu; have h2 := h.xl; have h8 := h.yl
      have h4 : (g' + 1) * y ≤ (g' + 1) * ((top * 1000000000 + next + 1) * P) := Nat.mul_le_mul_left _ (by omega)
      have h5 : (g' + 1) * ((top * 1000000000 + next + 1) * P) = (((g' + 1) * top) * 1000000000 + (g' + 1) * next) * P + (g' + 1) * P := by grind
      have h6 : (((g' + 1) * top) * 1000000000 + (g' + 1) * next) * P ≤ (head * 1000000000 + x2) * P := Nat.mul_le_mul_right _ (by omega)
      have h7 : (g' + 1) * P ≤ (top * 1000000000 + next) * P := Nat.mul_le_mul_right _ (by omega)
      have h9 : (g' + 1) * y = g' * y + y := by grind
      omega
    exact Nat.succ_le_succ hle

/-- The heads of numbers in limbs. -/
theorem heads_of {X Y : List Nat} {m : Nat} (hX : Small X) (hY : Small Y) (hx : X.length = m + 1) (hy : Y.length = m) (hm : 2 ≤ m)
    (ht : 500000000 ≤ Y.getD (m - 1) 0) (hlt : val X < val Y * 1000000000) :
    Heads (val X) (val Y) (Y.getD (m - 1) 0) (Y.getD (m - 2) 0) (X.getD m 0 * 1000000000 + X.getD (m - 1) 0) (X.getD (m - 2) 0) (1000000000 ^ (m - 2)) := by
  obtain ⟨k, rfl⟩ : ∃ k, m = k + 2 := ⟨m - 2, by omega⟩
  have ey : val Y = val (Y.take k) + Y.getD k 0 * 1000000000 ^ k + Y.getD (k + 1) 0 * 1000000000 ^ (k + 1) := by
    have : Y.take (k + 1 + 1) = Y := List.take_of_length_le (by omega)
    rw [← this, val_take_getD, val_take_getD, this]
  have ex : val X = val (X.take k) + X.getD k 0 * 1000000000 ^ k + X.getD (k + 1) 0 * 1000000000 ^ (k + 1) + X.getD (k + 2) 0 * 1000000000 ^ (k + 2) := by
    have : X.take (k + 1 + 1 + 1) = X := List.take_of_length_le (by omega)
    rw [← this, val_take_getD, val_take_getD, val_take_getD, this]
  have h1 := val_lt (hX.take k); have h2 := val_lt (hY.take k)
  rw [List.length_take, Nat.min_eq_left (by omega)] at h1 h2
  have e1 : k + 2 - 1 = k + 1 := by omega
  have e2 : k + 2 - 2 = k := by omega
  rw [e1] at ht ⊢
  rw [e2]
  have a1 : (Y.getD (k + 1) 0 * 1000000000 + Y.getD k 0) * 1000000000 ^ k = Y.getD k 0 * 1000000000 ^ k + Y.getD (k + 1) 0 * 1000000000 ^ (k + 1) := by rw [Nat.pow_succ]; grind
  have a2 : ((X.getD (k + 2) 0 * 1000000000 + X.getD (k + 1) 0) * 1000000000 + X.getD k 0) * 1000000000 ^ k = X.getD k 0 * 1000000000 ^ k + X.getD (k + 1) 0 * 1000000000 ^ (k + 1) + X.getD (k + 2) 0 * 1000000000 ^ (k + 2) := by
    rw [Nat.pow_succ, Nat.pow_succ]; grind
  have a3 : ∀ z P : Nat, (z + 1) * P = z * P + P := fun z P => by grind
  refine ⟨Nat.pow_pos (by decide), ht, hY.getD _, hY.getD _, hX.getD _, ?_, ?_, ?_, ?_, hlt⟩
  · rw [a1, ey]; omega
  · rw [a3, a1, ey]; omega
  · rw [a2, ex]; omega
  · rw [a3, a2, ex]; omega

end Go.Proofs.YtbadibbdoljjhaaGreatDoor
