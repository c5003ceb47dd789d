import Derived.Test.YtbadibbdoljjhaaGreatDoorCut34

set_option linter.unusedVariables false
/-
  RationalRounds: the walk.
-/
namespace Go.Proofs.YtbadibbdoljjhaaGreatDoor
open Go Go.Proofs Go.RowKit

theorem floor_sz {k : Nat} {q : Rat} (h : RZ k q) : Sz k q.floor := by
  rw [← fdiv_floor]; exact Nat.lt_of_le_of_lt (fdiv_le _ _ (den_ne q)) h.num
theorem ceil_sz {k : Nat} {q : Rat} (h : RZ k q) : Sz k q.ceil := by
  rw [Rat.ceil_eq_neg_floor_neg]; exact (floor_sz h.neg).neg
theorem rz_int {k : Nat} {z : Int} (h : Sz k z) (hk : 0 < k) : RZ k (z : Rat) := by
  refine ⟨by rw [Rat.num_intCast]; exact h, ?_⟩
  rw [Rat.den_intCast]
  unfold Sz
  exact Nat.one_lt_pow (by omega) (by decide)
theorem int_of_den {q : Rat} (h : q.den = 1) : q = (q.num : Rat) := by
  refine Rat.ext ?_ ?_
  · rw [Rat.num_intCast]
  · rw [Rat.den_intCast, h]
theorem floor_lt {q : Rat} (h : q.den ≠ 1) : (q.floor : Rat) < q := by
  refine Rat.lt_of_le_of_ne (Rat.floor_le q) (fun e => h ?_)
  rw [← e, Rat.den_intCast]
theorem lt_ceil {q : Rat} (h : q.den ≠ 1) : q < (q.ceil : Rat) := by
  refine Rat.lt_of_le_of_ne Rat.le_ceil (fun e => h ?_)
  rw [e, Rat.den_intCast]
theorem ceil_floor {q : Rat} (h : q.den ≠ 1) : q.ceil - q.floor = 1 := by
  have h1 : q.ceil ≤ q.floor + 1 := Rat.ceil_le_iff.2 (Rat.le_of_lt (Rat.lt_floor_add_one q))
  have h2 : q.floor < q.ceil := Rat.intCast_lt_intCast.1 (by
    have a := floor_lt h; have b := lt_ceil h
    exact Rat.lt_of_le_of_ne (Rat.le_trans (Rat.le_of_lt a) (Rat.le_of_lt b)) (fun e => by
      rw [e] at a
      exact Rat.lt_irrefl (Rat.lt_of_le_of_ne (Rat.le_trans (Rat.le_of_lt a) (Rat.le_of_lt b)) (fun e2 => by rw [← e2] at b; exact Rat.lt_irrefl (a := q) (by exact absurd b (Rat.not_lt.2 (Rat.le_of_lt a)))))))
  omega
theorem den_lit {q : Rat} (h : q.den = 1) : str (Lib.itoa (q.den : Int)) = ⟨#[49]⟩ := by rw [h]; exact lit_str s1
theorem floor_neg_ceil (q : Rat) : (-q).floor = -q.ceil := by rw [Rat.ceil_eq_neg_floor_neg, Int.neg_neg]

set_option maxRecDepth 20000 in
set_option maxHeartbeats 8000000 in
theorem rounds_whole (s f c n m : ByteArray) (w : World)
    (C0 : Calls Tryz.prog 52 #[.slice (some ⟨w.heap.size, 0, none⟩) 1 1] (w.alloc (Obj.cells #[.string s] 35)) (Bret (.bool true) (w.alloc (Obj.cells #[.string s] 35))))
    (C1 : ∀ W : World, Below w.heap.size w W → Calls Tryz.prog 30 #[.string s] W (Bret (.tuple #[.string f, .int .i64 0]) W))
    (C2 : ∀ W : World, Below w.heap.size w W → Calls Tryz.prog 31 #[.string s] W (Bret (.tuple #[.string c, .int .i64 0]) W))
    (C3 : ∀ W : World, Below w.heap.size w W → Calls Tryz.prog 53 #[.string c, .string f] W (Bret (.tuple #[.string ⟨#[48]⟩, .int .i64 0]) W))
    (C4 : ∀ W : World, Below w.heap.size w W → Calls Tryz.prog 41 #[.string f, .string s] W (Bret (.tuple #[.int .i64 0, .int .i64 0]) W))
    (C5 : ∀ W : World, Below w.heap.size w W → Calls Tryz.prog 41 #[.string s, .string c] W (Bret (.tuple #[.int .i64 0, .int .i64 0]) W))
    (C6 : ∀ W : World, Below w.heap.size w W → Calls Tryz.prog 29 #[.string s] W (Bret (.tuple #[.string n, .int .i64 0]) W))
    (C7 : ∀ W : World, Below w.heap.size w W → Calls Tryz.prog 30 #[.string n] W (Bret (.tuple #[.string m, .int .i64 0]) W))
    (C8 : ∀ W : World, Below w.heap.size w W → Calls Tryz.prog 54 #[.string c] W (Bret (.tuple #[.string m, .int .i64 0]) W))
    (C9 : ∀ W : World, Below w.heap.size w W → Calls Tryz.prog 28 #[.string s] W (Bret (.tuple #[.string ⟨#[49]⟩, .int .i64 0]) W))
    (CA : ∀ W : World, Below w.heap.size w W → Calls Tryz.prog 26 #[] W (Bret (.bool true) W)) :
    Calls Tryz.prog 10 #[.string s] w (Bret (.bool true) w) := by
  have B0 : Below w.heap.size w (w.alloc (Obj.cells #[.string s] 35)) := (Below.refl _ _).alloc (Nat.le_refl _) _
  have K0 := Lib.hid C0; have K1 := Lib.hid C1; have K2 := Lib.hid C2; have K3 := Lib.hid C3; have K4 := Lib.hid C4; have K5 := Lib.hid C5; have K6 := Lib.hid C6; have K7 := Lib.hid C7; have K8 := Lib.hid C8; have K9 := Lib.hid C9; have KA := Lib.hid CA; have HB0 := Lib.hid B0
  clear C0 C1 C2 C3 C4 C5 C6 C7 C8 C9 CA B0
  go_enter Tryz.func10, Tryz.ntmps10
  go_wp2_with (go_at_call 52; refine K0.out.mono ?_; rintro e w0 ⟨rfl, hb0⟩; refine Hid.out ?_)
  have hB0 := Below.chain HB0.out hb0; clear hb0
  refine Lib.hid ?_
  go_wp2_with (go_at_call 30; refine (K1.out _ hB0).mono ?_; rintro e w1 ⟨rfl, hb1⟩; refine Hid.out ?_)
  have hB1 := Below.chain hB0 hb1; clear hb1 hB0
  refine Lib.hid ?_
  go_wp2_with (go_at_call 31; refine (K2.out _ hB1).mono ?_; rintro e w2 ⟨rfl, hb2⟩; refine Hid.out ?_)
  have hB2 := Below.chain hB1 hb2; clear hb2 hB1
  refine Lib.hid ?_
  go_wp2_with (go_at_call 53; refine (K3.out _ hB2).mono ?_; rintro e w3 ⟨rfl, hb3⟩; refine Hid.out ?_)
  have hB3 := Below.chain hB2 hb3; clear hb3 hB2
  refine Lib.hid ?_
  go_wp2_with (go_at_call 41; refine (K4.out _ hB3).mono ?_; rintro e w4 ⟨rfl, hb4⟩; refine Hid.out ?_)
  have hB4 := Below.chain hB3 hb4; clear hb4 hB3
  refine Lib.hid ?_
  go_wp2_with (go_at_call 41; refine (K5.out _ hB4).mono ?_; rintro e w5 ⟨rfl, hb5⟩; refine Hid.out ?_)
  have hB5 := Below.chain hB4 hb5; clear hb5 hB4
  refine Lib.hid ?_
  go_wp2_with (go_at_call 29; refine (K6.out _ hB5).mono ?_; rintro e w6 ⟨rfl, hb6⟩; refine Hid.out ?_)
  have hB6 := Below.chain hB5 hb6; clear hb6 hB5
  refine Lib.hid ?_
  go_wp2_with (go_at_call 30; refine (K7.out _ hB6).mono ?_; rintro e w7 ⟨rfl, hb7⟩; refine Hid.out ?_)
  have hB7 := Below.chain hB6 hb7; clear hb7 hB6
  refine Lib.hid ?_
  go_wp2_with (go_at_call 54; refine (K8.out _ hB7).mono ?_; rintro e w8 ⟨rfl, hb8⟩; refine Hid.out ?_)
  have hB8 := Below.chain hB7 hb8; clear hb8 hB7
  refine Lib.hid ?_
  go_wp2_with (go_at_call 28; refine (K9.out _ hB8).mono ?_; rintro e w9 ⟨rfl, hb9⟩; refine Hid.out ?_)
  have hB9 := Below.chain hB8 hb9; clear hb9 hB8
  refine Lib.hid ?_
  go_wp2_with (go_at_call 26; refine (KA.out _ hB9).mono ?_; rintro e w10 ⟨rfl, hb10⟩; refine Hid.out ?_)
  have hB10 := Below.chain hB9 hb10; clear hb10 hB9
  refine Lib.hid ?_
  go_wp2
  refine bodyPost_ret (v := .bool true) (by simp [results, Tryz.results10, go_sem]) rfl ?_
  exact ⟨rfl, hB10⟩

set_option maxRecDepth 20000 in
set_option maxHeartbeats 8000000 in
theorem rounds_part (s f c n m dn : ByteArray) (w : World) (hd : (dn.toList == [49]) = false)
    (C0 : Calls Tryz.prog 52 #[.slice (some ⟨w.heap.size, 0, none⟩) 1 1] (w.alloc (Obj.cells #[.string s] 35)) (Bret (.bool true) (w.alloc (Obj.cells #[.string s] 35))))
    (C1 : ∀ W : World, Below w.heap.size w W → Calls Tryz.prog 30 #[.string s] W (Bret (.tuple #[.string f, .int .i64 0]) W))
    (C2 : ∀ W : World, Below w.heap.size w W → Calls Tryz.prog 31 #[.string s] W (Bret (.tuple #[.string c, .int .i64 0]) W))
    (C3 : ∀ W : World, Below w.heap.size w W → Calls Tryz.prog 53 #[.string c, .string f] W (Bret (.tuple #[.string ⟨#[49]⟩, .int .i64 0]) W))
    (C4 : ∀ W : World, Below w.heap.size w W → Calls Tryz.prog 41 #[.string f, .string s] W (Bret (.tuple #[.int .i64 (-1), .int .i64 0]) W))
    (C5 : ∀ W : World, Below w.heap.size w W → Calls Tryz.prog 41 #[.string s, .string c] W (Bret (.tuple #[.int .i64 (-1), .int .i64 0]) W))
    (C6 : ∀ W : World, Below w.heap.size w W → Calls Tryz.prog 29 #[.string s] W (Bret (.tuple #[.string n, .int .i64 0]) W))
    (C7 : ∀ W : World, Below w.heap.size w W → Calls Tryz.prog 30 #[.string n] W (Bret (.tuple #[.string m, .int .i64 0]) W))
    (C8 : ∀ W : World, Below w.heap.size w W → Calls Tryz.prog 54 #[.string c] W (Bret (.tuple #[.string m, .int .i64 0]) W))
    (C9 : ∀ W : World, Below w.heap.size w W → Calls Tryz.prog 28 #[.string s] W (Bret (.tuple #[.string dn, .int .i64 0]) W))
    (CA : ∀ W : World, Below w.heap.size w W → Calls Tryz.prog 26 #[] W (Bret (.bool true) W)) :
    Calls Tryz.prog 10 #[.string s] w (Bret (.bool true) w) := by
  have B0 : Below w.heap.size w (w.alloc (Obj.cells #[.string s] 35)) := (Below.refl _ _).alloc (Nat.le_refl _) _
  have K0 := Lib.hid C0; have K1 := Lib.hid C1; have K2 := Lib.hid C2; have K3 := Lib.hid C3; have K4 := Lib.hid C4; have K5 := Lib.hid C5; have K6 := Lib.hid C6; have K7 := Lib.hid C7; have K8 := Lib.hid C8; have K9 := Lib.hid C9; have KA := Lib.hid CA; have HB0 := Lib.hid B0
  clear C0 C1 C2 C3 C4 C5 C6 C7 C8 C9 CA B0
  go_enter Tryz.func10, Tryz.ntmps10
  go_wp2_with (go_at_call 52; refine K0.out.mono ?_; rintro e w0 ⟨rfl, hb0⟩; refine Hid.out ?_)
  have hB0 := Below.chain HB0.out hb0; clear hb0
  refine Lib.hid ?_
  go_wp2_with (go_at_call 30; refine (K1.out _ hB0).mono ?_; rintro e w1 ⟨rfl, hb1⟩; refine Hid.out ?_)
  have hB1 := Below.chain hB0 hb1; clear hb1 hB0
  refine Lib.hid ?_
  go_wp2_with (go_at_call 31; refine (K2.out _ hB1).mono ?_; rintro e w2 ⟨rfl, hb2⟩; refine Hid.out ?_)
  have hB2 := Below.chain hB1 hb2; clear hb2 hB1
  refine Lib.hid ?_
  go_wp2_with (go_at_call 53; refine (K3.out _ hB2).mono ?_; rintro e w3 ⟨rfl, hb3⟩; refine Hid.out ?_)
  have hB3 := Below.chain hB2 hb3; clear hb3 hB2
  refine Lib.hid ?_
  go_wp2_with (go_at_call 41; refine (K4.out _ hB3).mono ?_; rintro e w4 ⟨rfl, hb4⟩; refine Hid.out ?_)
  have hB4 := Below.chain hB3 hb4; clear hb4 hB3
  refine Lib.hid ?_
  go_wp2_with (go_at_call 41; refine (K5.out _ hB4).mono ?_; rintro e w5 ⟨rfl, hb5⟩; refine Hid.out ?_)
  have hB5 := Below.chain hB4 hb5; clear hb5 hB4
  refine Lib.hid ?_
  go_wp2_with (go_at_call 29; refine (K6.out _ hB5).mono ?_; rintro e w6 ⟨rfl, hb6⟩; refine Hid.out ?_)
  have hB6 := Below.chain hB5 hb6; clear hb6 hB5
  refine Lib.hid ?_
  go_wp2_with (go_at_call 30; refine (K7.out _ hB6).mono ?_; rintro e w7 ⟨rfl, hb7⟩; refine Hid.out ?_)
  have hB7 := Below.chain hB6 hb7; clear hb7 hB6
  refine Lib.hid ?_
  go_wp2_with (go_at_call 54; refine (K8.out _ hB7).mono ?_; rintro e w8 ⟨rfl, hb8⟩; refine Hid.out ?_)
  have hB8 := Below.chain hB7 hb8; clear hb8 hB7
  refine Lib.hid ?_
  go_wp2_with (go_at_call 28; refine (K9.out _ hB8).mono ?_; rintro e w9 ⟨rfl, hb9⟩; refine Hid.out ?_)
  have hB9 := Below.chain hB8 hb9; clear hb9 hB8
  refine Lib.hid ?_
  go_wp2_with (go_at_call 26; refine (KA.out _ hB9).mono ?_; rintro e w10 ⟨rfl, hb10⟩; refine Hid.out ?_)
  have hB10 := Below.chain hB9 hb10; clear hb10 hB9
  refine Lib.hid ?_
  go_wp2
  refine bodyPost_ret (v := .bool true) (by simp [results, Tryz.results10, go_sem]) rfl ?_
  exact ⟨rfl, hB10⟩

set_option maxRecDepth 20000 in
set_option maxHeartbeats 4000000 in
theorem rounds_awake (s : ByteArray) (w : World)
    (C0 : Calls Tryz.prog 52 #[.slice (some ⟨w.heap.size, 0, none⟩) 1 1] (w.alloc (Obj.cells #[.string s] 35)) (Bret (.bool false) (w.alloc (Obj.cells #[.string s] 35))))
    (htab : Lib.TabIs Tryz.prog w "internal/strconv.uint64pow10" .u64 Lib.pow10Tab) :
    Calls Tryz.prog 10 #[.string s] w (Bret (.bool true) w) := by
  have hT := Lib.tabBelow_of_tabIs htab
  have C1 : ∀ W : World, Below w.heap.size w W → Calls Tryz.prog 26 #[] W (Bret (.bool true) W) := fun W hW => awake02 W (hT.on hW).here
  have B0 : Below w.heap.size w (w.alloc (Obj.cells #[.string s] 35)) := (Below.refl _ _).alloc (Nat.le_refl _) _
  have K0 := Lib.hid C0; have K1 := Lib.hid C1; have HB0 := Lib.hid B0
  clear C0 C1 B0 hT htab
  go_enter Tryz.func10, Tryz.ntmps10
  go_wp2_with (go_at_call 52; refine K0.out.mono ?_; rintro e w0 ⟨rfl, hb0⟩; refine Hid.out ?_)
  have hB0 := Below.chain HB0.out hb0; clear hb0
  refine Lib.hid ?_
  go_wp2_with (go_at_call 26; refine (K1.out _ hB0).mono ?_; rintro e w1 ⟨rfl, hb1⟩; refine Hid.out ?_)
  have hB1 := Below.chain hB0 hb1; clear hb1 hB0
  refine Lib.hid ?_
  go_wp2
  refine bodyPost_ret (v := .bool true) (by simp [results, Tryz.results10, go_sem]) rfl ?_
  exact ⟨rfl, hB1⟩

theorem rounds_main (s : ByteArray) (p : Rat) (w : World) (hs : RStr s p) (hp : RZ 300 p)
    (C0 : Calls Tryz.prog 52 #[.slice (some ⟨w.heap.size, 0, none⟩) 1 1] (w.alloc (Obj.cells #[.string s] 35)) (Bret (.bool true) (w.alloc (Obj.cells #[.string s] 35))))
    (htab : Lib.TabIs Tryz.prog w "internal/strconv.uint64pow10" .u64 Lib.pow10Tab) :
    Calls Tryz.prog 10 #[.string s] w (Bret (.bool true) w) := by
  have hT := Lib.tabBelow_of_tabIs htab
  have hls : s.size ≤ 1000000000 := by have := hs.size; omega
  have zf := floor_sz hp; have zc := ceil_sz hp
  have sf := zf.str (by decide) (by decide); have sc := zc.str (by decide) (by decide)
  have rf := RStr.ofInt sf; have rc := RStr.ofInt sc
  have n1 := rstrZ hp.neg (by decide)
  have zd : Sz 301 (p.ceil - p.floor) := by rw [Int.sub_eq_add_neg]; exact zc.add zf.neg
  have C1 : ∀ W : World, Below w.heap.size w W → Calls Tryz.prog 30 #[.string s] W (Bret (.tuple #[.string (str (Lib.itoa (p.floor))), .int .i64 0]) W) := fun W hW => by
    exact ratFloorS s p W hs hls (hT.on hW).here
  have C2 : ∀ W : World, Below w.heap.size w W → Calls Tryz.prog 31 #[.string s] W (Bret (.tuple #[.string (str (Lib.itoa (p.ceil))), .int .i64 0]) W) := fun W hW => by
    exact ratCeilS s p W hs hls (hT.on hW).here
  have C3 : ∀ W : World, Below w.heap.size w W → Calls Tryz.prog 53 #[.string (str (Lib.itoa (p.ceil))), .string (str (Lib.itoa (p.floor)))] W (Bret (.tuple #[.string (str (Lib.itoa (p.ceil - p.floor))), .int .i64 0]) W) := fun W hW => by
    have := subZ _ _ _ _ W sc sf (hT.on hW).here; rwa [resV_fits (zd.fits (by decide) (by decide))] at this
  have C4 : ∀ W : World, Below w.heap.size w W → Calls Tryz.prog 41 #[.string (str (Lib.itoa (p.floor))), .string s] W (Bret (.tuple #[.int .i64 (ordQ (p.floor : Rat) p), .int .i64 0]) W) := fun W hW => by
    exact rcmpS rf hs (rz_int zf (by decide)) hp (by decide) W (hT.on hW).here
  have C5 : ∀ W : World, Below w.heap.size w W → Calls Tryz.prog 41 #[.string s, .string (str (Lib.itoa (p.ceil)))] W (Bret (.tuple #[.int .i64 (ordQ p (p.ceil : Rat)), .int .i64 0]) W) := fun W hW => by
    exact rcmpS hs rc hp (rz_int zc (by decide)) (by decide) W (hT.on hW).here
  have C6 : ∀ W : World, Below w.heap.size w W → Calls Tryz.prog 29 #[.string s] W (Bret (.tuple #[.string (str (ratL (-p))), .int .i64 0]) W) := fun W hW => by
    exact rnegS hs W (hT.on hW).here
  have C7 : ∀ W : World, Below w.heap.size w W → Calls Tryz.prog 30 #[.string (str (ratL (-p)))] W (Bret (.tuple #[.string (str (Lib.itoa (-p.ceil))), .int .i64 0]) W) := fun W hW => by
    have := ratFloorS _ _ W n1 (by have := n1.size; omega) (hT.on hW).here; unfold floorQ at this; rwa [floor_neg_ceil] at this
  have C8 : ∀ W : World, Below w.heap.size w W → Calls Tryz.prog 54 #[.string (str (Lib.itoa (p.ceil)))] W (Bret (.tuple #[.string (str (Lib.itoa (-p.ceil))), .int .i64 0]) W) := fun W hW => by
    exact bret_same (negZ _ _ W sc)
  have C9 : ∀ W : World, Below w.heap.size w W → Calls Tryz.prog 28 #[.string s] W (Bret (.tuple #[.string (str (Lib.itoa ((p.den : Int)))), .int .i64 0]) W) := fun W hW => by
    exact ratDenS s p W hs hls (hT.on hW).here
  have CA : ∀ W : World, Below w.heap.size w W → Calls Tryz.prog 26 #[] W (Bret (.bool true) W) := fun W hW => awake02 W (hT.on hW).here
  by_cases h : p.den = 1
  · have e := int_of_den h
    have e1 : p.floor = p.num := by conv => lhs; rw [e, Rat.floor_intCast]
    have e2 : p.ceil = p.num := by conv => lhs; rw [e, Rat.ceil_intCast]
    rw [den_lit h] at C9
    rw [show ordQ (p.floor : Rat) p = 0 by rw [e1, ← e]; exact ordQ_eq p] at C4
    rw [show ordQ p (p.ceil : Rat) = 0 by rw [e2, ← e]; exact ordQ_eq p] at C5
    rw [show p.ceil - p.floor = 0 by rw [e1, e2]; omega, lit_str str_zero] at C3
    exact rounds_whole s _ _ _ _ w C0 C1 C2 C3 C4 C5 C6 C7 C8 C9 CA
  · rw [ordQ_lt (floor_lt h)] at C4
    rw [ordQ_lt (lt_ceil h)] at C5
    rw [ceil_floor h, lit_str s1] at C3
    exact rounds_part s _ _ _ _ _ w (itoa_ne_one (by omega)) C0 C1 C2 C3 C4 C5 C6 C7 C8 C9 CA

theorem rounds_walk (s : ByteArray) (w : World) (hs : s.size ≤ 9223372036854775807)
    (htab : Lib.TabIs Tryz.prog w "internal/strconv.uint64pow10" .u64 Lib.pow10Tab) :
    Calls Tryz.prog 10 #[.string s] w fun e w' => e = .returned (.bool true) ∧ Below w.heap.size w w' := by
  have C0 := right_one s w hs
  cases hr : rokB s
  · rw [hr] at C0
    exact rounds_awake s w C0 htab
  · rw [hr] at C0
    obtain ⟨a1, a2⟩ := rok_rstr hr
    exact rounds_main s _ w a1 a2 C0 htab
end Go.Proofs.YtbadibbdoljjhaaGreatDoor
