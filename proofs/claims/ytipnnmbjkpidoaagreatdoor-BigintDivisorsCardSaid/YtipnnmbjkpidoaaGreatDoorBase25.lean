import Derived.Test.YtipnnmbjkpidoaaGreatDoorBase24

set_option linter.unusedVariables false
/-
  BigintRing: the walk.
-/
namespace Go.Proofs.YtipnnmbjkpidoaaGreatDoor
open Go Go.Proofs Go.RowKit

def Sz (k : Nat) (x : Int) : Prop := x.natAbs < 10 ^ k
theorem Sz.mono {j k : Nat} {x : Int} (h : Sz j x) (hjk : j ≤ k) : Sz k x := Nat.lt_of_lt_of_le h (Nat.pow_le_pow_right (by decide) hjk)
theorem Sz.add {k : Nat} {x y : Int} (h1 : Sz k x) (h2 : Sz k y) : Sz (k + 1) (x + y) := by
  unfold Sz at *
  rw [Nat.pow_succ]
  generalize (10 : Nat) ^ k = p at *
  omega
theorem Sz.neg {k : Nat} {x : Int} (h : Sz k x) : Sz k (-x) := by unfold Sz at *; rwa [Int.natAbs_neg]
theorem Sz.mul {j k : Nat} {x y : Int} (h1 : Sz j x) (h2 : Sz k y) : Sz (j + k) (x * y) := by
  unfold Sz at *
  rw [Int.natAbs_mul, Nat.pow_add]
  exact Nat.mul_lt_mul'' h1 h2
theorem Sz.fits {k : Nat} {x : Int} (h : Sz k x) (h0 : 0 < k) (hk : k ≤ 4096) : ¬ 4096 < (Lib.decDigits x.natAbs).length := fits_of_lt k h h0 hk
theorem Sz.str {k : Nat} {x : Int} (h : Sz k x) (h0 : 0 < k) (hk : k ≤ 4096) : Str (str (Lib.itoa x)) x := str_itoa (Nat.le_of_not_lt (h.fits h0 hk))

set_option maxHeartbeats 1000000 in
theorem sumsZ (s t : ByteArray) (x y : Int) (w : World) (hs : Str s x) (ht : Str t y) (f1 : ¬ 4096 < (Lib.decDigits (x + y).natAbs).length) (f2 : ¬ 4096 < (Lib.decDigits (x * y).natAbs).length)
    (htab : Lib.TabIs Tryz.prog w "internal/strconv.uint64pow10" .u64 Lib.pow10Tab) :
    Calls Tryz.prog 54 #[.string s, .string t] w fun e w' => e = .returned (.tuple #[.string (str (Lib.itoa (x + y))), .string (str (Lib.itoa (x * y))), .bool true]) ∧ Below w.heap.size w w' := by
  have hT := Lib.tabBelow_of_tabIs htab
  have C1 := addZ s t x y w hs ht htab
  rw [resV_fits f1] at C1
  have C2 : ∀ W : World, Below w.heap.size w W → Calls Tryz.prog 38 #[.string s, .string t] W fun e w' => e = .returned (.tuple #[.string (str (Lib.itoa (x * y))), .int .i64 0]) ∧ Below W.heap.size W w' := fun W hW => by
    have := mulZ s t x y W hs ht (hT.on hW).here
    rwa [resV_fits f2] at this
  have K1 := Lib.hid C1; have K2 := Lib.hid C2
  clear C1 C2 hT htab hs ht f1 f2
  generalize str (Lib.itoa (x + y)) = r1 at *
  generalize str (Lib.itoa (x * y)) = r2 at *
  go_enter Tryz.func54, Tryz.ntmps54
  go_wp2_with (go_at_call 34; refine K1.out.mono ?_; rintro e w1 ⟨rfl, hb1⟩; refine Hid.out ?_)
  refine Lib.hid ?_
  go_wp2_with (go_at_call 38; refine (K2.out _ hb1).mono ?_; rintro e w2 ⟨rfl, hb2⟩; refine Hid.out ?_)
  refine Lib.hid ?_
  go_wp2
  refine bodyPost_ret (v := .tuple #[.string r1, .string r2, .bool true]) (by simp [results, Tryz.results54, go_sem]) rfl ?_
  exact ⟨rfl, Below.chain hb1 hb2⟩

theorem all_three (p : ByteArray → Bool) (s t u : ByteArray) : [s, t, u].all p = (p s && (p t && p u)) := by simp

set_option maxRecDepth 20000 in
set_option maxHeartbeats 16000000 in
theorem ring_main (s t u : ByteArray) (x y z : Int) (w : World) (hs : Str s x) (ht : Str t y) (hu : Str u z) (hfs : s.size ≤ 250) (hft : t.size ≤ 250) (hfu : u.size ≤ 250)
    (htab : Lib.TabIs Tryz.prog w "internal/strconv.uint64pow10" .u64 Lib.pow10Tab) :
    Calls Tryz.prog 9 #[.string s, .string t, .string u] w fun e w' => e = .returned (.bool true) ∧ Below w.heap.size w w' := by
  have hT := Lib.tabBelow_of_tabIs htab
  have zx : Sz 250 x := few_lt hs hfs
  have zy : Sz 250 y := few_lt ht hft
  have zz : Sz 250 z := few_lt hu hfu
  have zab : Sz 251 (x + y) := zx.add zy
  have zbc : Sz 251 (y + z) := zy.add zz
  have zac : Sz 251 (x + z) := zx.add zz
  have zp : Sz 500 (x * y) := zx.mul zy
  have zr : Sz 500 (y * z) := zy.mul zz
  have zs : Sz 500 (x * z) := zx.mul zz
  have SUM : ∀ (p q : ByteArray) (a b : Int) (k : Nat), k ≤ 2000 → 0 < k → Str p a → Str q b → Sz k a → Sz k b → ∀ W : World, Below w.heap.size w W → Calls Tryz.prog 54 #[.string p, .string q] W fun e w' => e = .returned (.tuple #[.string (str (Lib.itoa (a + b))), .string (str (Lib.itoa (a * b))), .bool true]) ∧ Below W.heap.size W w' := fun p q a b k hk h0 hp hq ha hb W hW =>
    sumsZ p q a b W hp hq ((ha.add hb).fits (by omega) (by omega)) ((ha.mul hb).fits (by omega) (by omega)) (hT.on hW).here
  have okR : ([s, t, u].all okB && [s, t, u].all fewB) = true := by
    rw [all_three, all_three]
    unfold okB fewB
    rw [hs.err, ht.err, hu.err, decide_eq_true hfs, decide_eq_true hft, decide_eq_true hfu]; rfl
  have B0 : Below w.heap.size w (w.alloc (Obj.cells #[.string s, .string t, .string u] 22)) := (Below.refl _ _).alloc (Nat.le_refl _) _
  have C0 : Calls Tryz.prog 53 #[.slice (some ⟨w.heap.size, 0, none⟩) 3 3] (w.alloc (Obj.cells #[.string s, .string t, .string u] 22)) fun e w' => e = .returned (.bool ([s, t, u].all okB && [s, t, u].all fewB)) ∧ w' = w.alloc (Obj.cells #[.string s, .string t, .string u] 22) := right_any [s, t, u] w.heap.size 3 _ (fun j h => by
    match j, h with
    | 0, _ => show _ = some (Value.string s); go_cell
    | 1, _ => show _ = some (Value.string t); go_cell
    | 2, _ => show _ = some (Value.string u); go_cell) (fun v hv => by
    simp at hv
    rcases hv with rfl | rfl | rfl <;> omega) (by simp)
  rw [okR] at C0
  have C1 := SUM s t x y 250 (by decide) (by decide) hs ht zx zy
  have C2 := SUM t s y x 250 (by decide) (by decide) ht hs zy zx
  rw [Int.add_comm y x, Int.mul_comm y x] at C2
  have C3 := SUM t u y z 250 (by decide) (by decide) ht hu zy zz
  have C4 := SUM _ u (x + y) z 251 (by decide) (by decide) (zab.str (by decide) (by decide)) hu zab (zz.mono (by decide))
  have C5 := SUM s _ x (y + z) 251 (by decide) (by decide) hs (zbc.str (by decide) (by decide)) (zx.mono (by decide)) zbc
  rw [← Int.add_assoc] at C5
  have C6 := SUM _ u (x * y) z 500 (by decide) (by decide) (zp.str (by decide) (by decide)) hu zp (zz.mono (by decide))
  have C7 := SUM s _ x (y * z) 500 (by decide) (by decide) hs (zr.str (by decide) (by decide)) (zx.mono (by decide)) zr
  rw [← Int.mul_assoc] at C7
  have C8 := SUM s u x z 250 (by decide) (by decide) hs hu zx zz
  have C9 := SUM _ _ (x * z) (y * z) 500 (by decide) (by decide) (zs.str (by decide) (by decide)) (zr.str (by decide) (by decide)) zs zr
  rw [← Int.add_mul] at C9
  have C10 := SUM _ _ (x * y) (x * z) 500 (by decide) (by decide) (zp.str (by decide) (by decide)) (zs.str (by decide) (by decide)) zp zs
  rw [← Int.mul_add] at C10
  have C11 : ∀ W : World, Below w.heap.size w W → Calls Tryz.prog 36 #[.string (str (Lib.itoa (x + z))), .string u] W fun e w' => e = .returned (.tuple #[.string s, .int .i64 0]) ∧ Below W.heap.size W w' := fun W hW => by
    have := subZ _ u (x + z) z W (zac.str (by decide) (by decide)) hu (hT.on hW).here
    rwa [show x + z - z = x by omega, resV_lit hs] at this
  have C12 := fun W => negZ t y W ht
  have C13 := SUM _ _ (x + y) (-y) 251 (by decide) (by decide) (zab.str (by decide) (by decide)) (zy.neg.str (by decide) (by decide)) zab (zy.neg.mono (by decide))
  rw [show x + y + -y = x by omega, lit_str hs] at C13
  have C14 : ∀ W : World, Below w.heap.size w W → Calls Tryz.prog 17 #[] W fun e w' => e = .returned (.bool true) ∧ Below W.heap.size W w' := fun W hW => awake_any W (hT.on hW).here
  have HB0 := Lib.hid B0
  have K0 := Lib.hid C0; have K1 := Lib.hid C1; have K2 := Lib.hid C2; have K3 := Lib.hid C3; have K4 := Lib.hid C4; have K5 := Lib.hid C5; have K6 := Lib.hid C6; have K7 := Lib.hid C7; have K8 := Lib.hid C8; have K9 := Lib.hid C9; have K10 := Lib.hid C10; have K11 := Lib.hid C11; have K12 := Lib.hid C12; have K13 := Lib.hid C13; have K14 := Lib.hid C14
  clear C0 C1 C2 C3 C4 C5 C6 C7 C8 C9 C10 C11 C12 C13 C14
  clear B0 SUM okR hT htab hs ht hu hfs hft hfu zx zy zz zab zbc zac zp zr zs
  generalize str (Lib.itoa ((x + y) * -y)) = g1 at *
  generalize str (Lib.itoa (x * y * (x * z))) = g2 at *
  generalize str (Lib.itoa (x * z * (y * z))) = g3 at *
  generalize str (Lib.itoa (x * (y + z))) = g4 at *
  generalize str (Lib.itoa ((x + y) * z)) = g5 at *
  generalize str (Lib.itoa (x * y * z)) = g6 at *
  generalize str (Lib.itoa (x * y + z)) = g7 at *
  generalize str (Lib.itoa (x + y * z)) = g8 at *
  generalize str (Lib.itoa (x + y + z)) = g9 at *
  generalize str (Lib.itoa (x + y)) = g10 at *
  generalize str (Lib.itoa (y + z)) = g11 at *
  generalize str (Lib.itoa (x + z)) = g12 at *
  generalize str (Lib.itoa (x * y)) = g13 at *
  generalize str (Lib.itoa (y * z)) = g14 at *
  generalize str (Lib.itoa (x * z)) = g15 at *
  generalize str (Lib.itoa (-y)) = g16 at *
  go_enter Tryz.func9, Tryz.ntmps9
  go_wp2_with (go_at_call 53; refine K0.out.mono ?_; rintro e w0 ⟨rfl, rfl⟩; refine Hid.out ?_)
  have hB0 := HB0.out
  refine Lib.hid ?_
  go_wp2_with (go_at_call 54; refine (K1.out _ hB0).mono ?_; rintro e w1 ⟨rfl, hb1⟩; refine Hid.out ?_)
  have hB1 := Below.chain hB0 hb1; clear hB0 hb1
  refine Lib.hid ?_
  go_wp2_with (go_at_call 54; refine (K2.out _ hB1).mono ?_; rintro e w2 ⟨rfl, hb2⟩; refine Hid.out ?_)
  have hB2 := Below.chain hB1 hb2; clear hB1 hb2
  refine Lib.hid ?_
  go_wp2_with (go_at_call 54; refine (K3.out _ hB2).mono ?_; rintro e w3 ⟨rfl, hb3⟩; refine Hid.out ?_)
  have hB3 := Below.chain hB2 hb3; clear hB2 hb3
  refine Lib.hid ?_
  go_wp2_with (go_at_call 54; refine (K4.out _ hB3).mono ?_; rintro e w4 ⟨rfl, hb4⟩; refine Hid.out ?_)
  have hB4 := Below.chain hB3 hb4; clear hB3 hb4
  refine Lib.hid ?_
  go_wp2_with (go_at_call 54; refine (K5.out _ hB4).mono ?_; rintro e w5 ⟨rfl, hb5⟩; refine Hid.out ?_)
  have hB5 := Below.chain hB4 hb5; clear hB4 hb5
  refine Lib.hid ?_
  go_wp2_with (go_at_call 54; refine (K6.out _ hB5).mono ?_; rintro e w6 ⟨rfl, hb6⟩; refine Hid.out ?_)
  have hB6 := Below.chain hB5 hb6; clear hB5 hb6
  refine Lib.hid ?_
  go_wp2_with (go_at_call 54; refine (K7.out _ hB6).mono ?_; rintro e w7 ⟨rfl, hb7⟩; refine Hid.out ?_)
  have hB7 := Below.chain hB6 hb7; clear hB6 hb7
  refine Lib.hid ?_
  go_wp2_with (go_at_call 54; refine (K8.out _ hB7).mono ?_; rintro e w8 ⟨rfl, hb8⟩; refine Hid.out ?_)
  have hB8 := Below.chain hB7 hb8; clear hB7 hb8
  refine Lib.hid ?_
  go_wp2_with (go_at_call 54; refine (K9.out _ hB8).mono ?_; rintro e w9 ⟨rfl, hb9⟩; refine Hid.out ?_)
  have hB9 := Below.chain hB8 hb9; clear hB8 hb9
  refine Lib.hid ?_
  go_wp2_with (go_at_call 54; refine (K10.out _ hB9).mono ?_; rintro e w10 ⟨rfl, hb10⟩; refine Hid.out ?_)
  have hB10 := Below.chain hB9 hb10; clear hB9 hb10
  refine Lib.hid ?_
  go_wp2_with (go_at_call 36; refine (K11.out _ hB10).mono ?_; rintro e w11 ⟨rfl, hb11⟩; refine Hid.out ?_)
  have hB11 := Below.chain hB10 hb11; clear hB10 hb11
  refine Lib.hid ?_
  go_wp2_with (go_at_call 20; refine (K12.out _).mono ?_; rintro e w12 ⟨rfl, h12⟩; subst h12; refine Hid.out ?_)
  refine Lib.hid ?_
  go_wp2_with (go_at_call 54; refine (K13.out _ hB11).mono ?_; rintro e w13 ⟨rfl, hb13⟩; refine Hid.out ?_)
  have hB13 := Below.chain hB11 hb13; clear hB11 hb13
  refine Lib.hid ?_
  go_wp2_with (go_at_call 17; refine (K14.out _ hB13).mono ?_; rintro e w14 ⟨rfl, hb14⟩; refine Hid.out ?_)
  have hB14 := Below.chain hB13 hb14; clear hB13 hb14
  refine Lib.hid ?_
  go_wp2
  refine bodyPost_ret (v := .bool true) (by simp [results, Tryz.results9, go_sem]) rfl ?_
  exact ⟨rfl, hB14⟩

set_option maxRecDepth 20000 in
set_option maxHeartbeats 4000000 in
theorem ring_awake (s t u : ByteArray) (w : World) (hs : s.size ≤ 9223372036854775807) (ht : t.size ≤ 9223372036854775807) (hu : u.size ≤ 9223372036854775807) (h : ([s, t, u].all okB && [s, t, u].all fewB) = false)
    (htab : Lib.TabIs Tryz.prog w "internal/strconv.uint64pow10" .u64 Lib.pow10Tab) :
    Calls Tryz.prog 9 #[.string s, .string t, .string u] w fun e w' => e = .returned (.bool true) ∧ Below w.heap.size w w' := by
  have hT := Lib.tabBelow_of_tabIs htab
  have B0 : Below w.heap.size w (w.alloc (Obj.cells #[.string s, .string t, .string u] 22)) := (Below.refl _ _).alloc (Nat.le_refl _) _
  have C0 : Calls Tryz.prog 53 #[.slice (some ⟨w.heap.size, 0, none⟩) 3 3] (w.alloc (Obj.cells #[.string s, .string t, .string u] 22)) fun e w' => e = .returned (.bool ([s, t, u].all okB && [s, t, u].all fewB)) ∧ w' = w.alloc (Obj.cells #[.string s, .string t, .string u] 22) := right_any [s, t, u] w.heap.size 3 _ (fun j h => by
    match j, h with
    | 0, _ => show _ = some (Value.string s); go_cell
    | 1, _ => show _ = some (Value.string t); go_cell
    | 2, _ => show _ = some (Value.string u); go_cell) (fun v hv => by
    simp at hv
    rcases hv with rfl | rfl | rfl <;> omega) (by simp)
  have C10 : ∀ W : World, Below w.heap.size w W → Calls Tryz.prog 17 #[] W fun e w' => e = .returned (.bool true) ∧ Below W.heap.size W w' := fun W hW => awake_any W (hT.on hW).here
  have K10 := Lib.hid C10; have HB0 := Lib.hid B0
  rw [h] at C0
  have K0 := Lib.hid C0
  clear C0 C10 B0 hT htab h
  go_enter Tryz.func9, Tryz.ntmps9
  go_wp2_with (go_at_call 53; refine K0.out.mono ?_; rintro e w0 ⟨rfl, rfl⟩; refine Hid.out ?_)
  refine Lib.hid ?_
  go_wp2_with (go_at_call 17; refine (K10.out _ HB0.out).mono ?_; rintro e w10 ⟨rfl, hb10⟩; refine Hid.out ?_)
  have hB10 := Below.chain HB0.out hb10
  refine Lib.hid ?_
  go_wp2
  refine bodyPost_ret (v := .bool true) (by simp [results, Tryz.results9, go_sem]) rfl ?_
  exact ⟨rfl, hB10⟩

theorem ring_walk (s t u : ByteArray) (w : World) (hs : s.size ≤ 9223372036854775807) (ht : t.size ≤ 9223372036854775807) (hu : u.size ≤ 9223372036854775807)
    (htab : Lib.TabIs Tryz.prog w "internal/strconv.uint64pow10" .u64 Lib.pow10Tab) :
    Calls Tryz.prog 9 #[.string s, .string t, .string u] w fun e w' => e = .returned (.bool true) ∧ Below w.heap.size w w' := by
  cases hok : ([s, t, u].all okB && [s, t, u].all fewB)
  · exact ring_awake s t u w hs ht hu hok htab
  · rw [all_three, all_three] at hok
    simp only [Bool.and_eq_true] at hok
    obtain ⟨⟨h1, h2, h3⟩, h4, h5, h6⟩ := hok
    exact ring_main s t u _ _ _ w (str_of_err (of_decide_eq_true h1)) (str_of_err (of_decide_eq_true h2)) (str_of_err (of_decide_eq_true h3)) (of_decide_eq_true h4) (of_decide_eq_true h5) (of_decide_eq_true h6) htab
end Go.Proofs.YtipnnmbjkpidoaaGreatDoor
