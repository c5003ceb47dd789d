import Derived.Test.YtipnnmbjkpidoaaGreatDoorBase25
import Derived.Test.YtipnnmbjkpidoaaGreatDoorBase44
import Derived.Test.YtipnnmbjkpidoaaGreatDoorBase21

set_option linter.unusedVariables false
/-
  BigintDivisors: the walk.
-/
namespace Go.Proofs.YtipnnmbjkpidoaaGreatDoor
open Go Go.Proofs Go.RowKit

theorem Sz.succ {k : Nat} {x y : Int} (h : Sz k x) (hy : y.natAbs ≤ x.natAbs + 1) : Sz (k + 1) y := by
  unfold Sz at *
  rw [Nat.pow_succ]
  have := Nat.pow_pos (n := k) (show 0 < 10 by decide)
  generalize (10 : Nat) ^ k = p at *
  omega

set_option maxRecDepth 20000 in
set_option maxHeartbeats 16000000 in
theorem divisors_main (s t u : ByteArray) (x y z : Int) (w : World) (hs : Str s x) (ht : Str t y) (hu : Str u z) (hfs : s.size ≤ 250) (hft : t.size ≤ 250) (hfu : u.size ≤ 250)
    (htab : Lib.TabIs Tryz.prog w "internal/strconv.uint64pow10" .u64 Lib.pow10Tab) :
    Calls Tryz.prog 11 #[.string s, .string t, .string u] w fun e w' => e = .returned (.bool true) ∧ Below w.heap.size w w' := by
  have hT := Lib.tabBelow_of_tabIs htab
  have zx : Sz 250 x := few_lt hs hfs
  have zy : Sz 250 y := few_lt ht hft
  have zz : Sz 250 z := few_lt hu hfu
  have zr : Sz 500 (y * z) := zy.mul zz
  have zs : Sz 500 (x * z) := zx.mul zz
  have zm : Sz 250 (z.natAbs : Int) := by unfold Sz at *; rwa [Int.natAbs_natCast]
  have zg : Sz 250 ((Int.gcd x y : Nat) : Int) := by unfold Sz at *; rw [Int.natAbs_natCast]; exact gcd_le x y _ zx zy
  have hspec := bezOf_spec x y
  have hgx : ((Int.gcd x y : Nat) : Int) ∣ x := Int.gcd_dvd_left ..
  have hgy : ((Int.gcd x y : Nat) : Int) ∣ y := Int.gcd_dvd_right ..
  have hg0 : ((Int.gcd x y : Nat) : Int) = 0 → x = 0 ∧ y = 0 := fun h => Int.gcd_eq_zero_iff.1 (by omega)
  have C3 : ∀ W : World, Below w.heap.size w W → Calls Tryz.prog 44 #[.string s, .string t] W fun e w' => e = .returned (.tuple #[.string (str (Lib.itoa ((Int.gcd x y : Nat) : Int))), .int .i64 0]) ∧ Below W.heap.size W w' := fun W hW => by
    have := gcdZ s t x y W hs ht (hT.on hW).here
    rwa [resV_fits (zg.fits (by decide) (by decide))] at this
  have C4 : ∀ W : World, Below w.heap.size w W → Calls Tryz.prog 48 #[.string s, .string t] W fun e w' => e = .returned (bezV (bezOf x y)) ∧ Below W.heap.size W w' := fun W hW => bezoutZ s t x y W hs ht (hT.on hW).here
  have hgz : ((Int.gcd (x * z) (y * z) : Nat) : Int) = ((Int.gcd x y : Nat) : Int) * (z.natAbs : Int) := by rw [gcd_mul_abs, Int.natCast_mul]
  have zgz : Sz 500 (((Int.gcd x y : Nat) : Int) * (z.natAbs : Int)) := zg.mul zm
  have C5 : ∀ W : World, Below w.heap.size w W → Calls Tryz.prog 44 #[.string (str (Lib.itoa (x * z))), .string (str (Lib.itoa (y * z)))] W fun e w' => e = .returned (.tuple #[.string (str (Lib.itoa (((Int.gcd x y : Nat) : Int) * (z.natAbs : Int)))), .int .i64 0]) ∧ Below W.heap.size W w' := fun W hW => by
    have := gcdZ _ _ (x * z) (y * z) W (zs.str (by decide) (by decide)) (zr.str (by decide) (by decide)) (hT.on hW).here
    rwa [hgz, resV_fits (zgz.fits (by decide) (by decide))] at this
  generalize bezOf x y = r at *
  obtain ⟨d, p, q⟩ := r
  dsimp only at hspec
  obtain ⟨rfl, hpq, hp, hq⟩ := hspec
  unfold bezV at C4
  dsimp only at C4
  generalize ((Int.gcd x y : Nat) : Int) = g at *
  have zp : Sz 251 p := zy.succ hp
  have zq : Sz 251 q := zx.succ hq
  have zxp : Sz 501 (x * p) := zx.mul zp
  have zyq : Sz 501 (y * q) := zy.mul zq
  have SUM : ∀ (p q : ByteArray) (a b : Int) (k : Nat), k ≤ 2000 → 0 < k → Str p a → Str q b → Sz k a → Sz k b → ∀ W : World, Below w.heap.size w W → Calls Tryz.prog 54 #[.string p, .string q] W fun e w' => e = .returned (.tuple #[.string (str (Lib.itoa (a + b))), .string (str (Lib.itoa (a * b))), .bool true]) ∧ Below W.heap.size W w' := fun p q a b k hk h0 hp hq ha hb W hW =>
    sumsZ p q a b W hp hq ((ha.add hb).fits (by omega) (by omega)) ((ha.mul hb).fits (by omega) (by omega)) (hT.on hW).here
  have okR : ([s, t, u].all okB && [s, t, u].all fewB) = true := by
    rw [all_three, all_three]
    unfold okB fewB
    rw [hs.err, ht.err, hu.err, decide_eq_true hfs, decide_eq_true hft, decide_eq_true hfu]; rfl
  have B0 : Below w.heap.size w (w.alloc (Obj.cells #[.string s, .string t, .string u] 22)) := (Below.refl _ _).alloc (Nat.le_refl _) _
  have C0 : Calls Tryz.prog 53 #[.slice (some ⟨w.heap.size, 0, none⟩) 3 3] (w.alloc (Obj.cells #[.string s, .string t, .string u] 22)) fun e w' => e = .returned (.bool ([s, t, u].all okB && [s, t, u].all fewB)) ∧ w' = w.alloc (Obj.cells #[.string s, .string t, .string u] 22) := right_any [s, t, u] w.heap.size 3 _ (fun j h => by
    match j, h with
    | 0, _ => show _ = some (Value.string s); go_cell
    | 1, _ => show _ = some (Value.string t); go_cell
    | 2, _ => show _ = some (Value.string u); go_cell) (fun v hv => by
    have h1 := hs.size; have h2 := ht.size; have h3 := hu.size
    simp at hv
    rcases hv with rfl | rfl | rfl <;> omega) (by simp)
  rw [okR] at C0
  have C1 := SUM s u x z 250 (by decide) (by decide) hs hu zx zz
  have C2 := SUM t u y z 250 (by decide) (by decide) ht hu zy zz
  have C6 := fun W => absZ u z W hu
  have C7 := SUM s _ x p 251 (by decide) (by decide) hs (zp.str (by decide) (by decide)) (zx.mono (by decide)) zp
  have C8 := SUM t _ y q 251 (by decide) (by decide) ht (zq.str (by decide) (by decide)) (zy.mono (by decide)) zq
  have C9 := SUM _ _ (x * p) (y * q) 501 (by decide) (by decide) (zxp.str (by decide) (by decide)) (zyq.str (by decide) (by decide)) zxp zyq
  rw [hpq] at C9
  have C10 := SUM _ _ g (z.natAbs : Int) 250 (by decide) (by decide) (zg.str (by decide) (by decide)) (zm.str (by decide) (by decide)) zg zm
  have C13 : ∀ W : World, Below w.heap.size w W → Calls Tryz.prog 17 #[] W fun e w' => e = .returned (.bool true) ∧ Below W.heap.size W w' := fun W hW => awake_any W (hT.on hW).here
  have zero_lit : ∀ {b : ByteArray} {n : Int}, Str b n → n = 0 → b = ⟨#[48]⟩ := fun hb hn => by rw [← lit_str hb, hn, lit_str str_zero]
  have hend : (str (Lib.itoa g) = ⟨#[48]⟩ ∧ s = ⟨#[48]⟩ ∧ t = ⟨#[48]⟩) ∨
      (((str (Lib.itoa g)).toList == [48]) = false ∧ (∀ W : World, Below w.heap.size w W → Calls Tryz.prog 42 #[.string s, .string (str (Lib.itoa g))] W fun e w' => e = .returned (.tuple #[.string ⟨#[48]⟩, .int .i64 0]) ∧ Below W.heap.size W w') ∧
        (∀ W : World, Below w.heap.size w W → Calls Tryz.prog 42 #[.string t, .string (str (Lib.itoa g))] W fun e w' => e = .returned (.tuple #[.string ⟨#[48]⟩, .int .i64 0]) ∧ Below W.heap.size W w')) := by
    by_cases hg : g = 0
    · obtain ⟨h1, h2⟩ := hg0 hg
      exact .inl ⟨by rw [hg, lit_str str_zero], zero_lit hs h1, zero_lit ht h2⟩
    · have hsg := zg.str (by decide) (by decide)
      have h00 : ¬ 4096 < (Lib.decDigits (0 : Int).natAbs).length := (show Sz 1 0 by unfold Sz; decide).fits (by decide) (by decide)
      refine .inr ⟨eq48 _ (hsg.ne_zero hg), fun W hW => ?_, fun W hW => ?_⟩
      · have := remZ s _ x g W hs hsg hg (hT.on hW).here
        rwa [fmod_of_dvd hgx, resV_fits h00, lit_str str_zero] at this
      · have := remZ t _ y g W ht hsg hg (hT.on hW).here
        rwa [fmod_of_dvd hgy, resV_fits h00, lit_str str_zero] at this
  have HB0 := Lib.hid B0; have HE := Lib.hid hend
  have K0 := Lib.hid C0; have K1 := Lib.hid C1; have K2 := Lib.hid C2; have K3 := Lib.hid C3; have K4 := Lib.hid C4; have K5 := Lib.hid C5; have K6 := Lib.hid C6; have K7 := Lib.hid C7; have K8 := Lib.hid C8; have K9 := Lib.hid C9; have K10 := Lib.hid C10; have K13 := Lib.hid C13
  clear C0 C1 C2 C3 C4 C5 C6 C7 C8 C9 C10 C13
  clear B0 SUM okR hT htab hs ht hu hfs hft hfu zx zy zz zr zs zm zg hgx hgy hg0 hgz zgz hp hq zp zq zxp zyq hend zero_lit hpq
  generalize str (Lib.itoa (x * p * (y * q))) = g1 at *
  generalize str (Lib.itoa (g * (z.natAbs : Int))) = g2 at *
  generalize str (Lib.itoa (g + (z.natAbs : Int))) = g3 at *
  generalize str (Lib.itoa (x * p)) = g4 at *
  generalize str (Lib.itoa (y * q)) = g5 at *
  generalize str (Lib.itoa (x + p)) = g6 at *
  generalize str (Lib.itoa (y + q)) = g7 at *
  generalize str (Lib.itoa (x * z)) = g8 at *
  generalize str (Lib.itoa (y * z)) = g9 at *
  generalize str (Lib.itoa (x + z)) = g10 at *
  generalize str (Lib.itoa (y + z)) = g11 at *
  generalize str (Lib.itoa p) = g12 at *
  generalize str (Lib.itoa q) = g13 at *
  generalize str (Lib.itoa ((z.natAbs : Int))) = g14 at *
  generalize str (Lib.itoa g) = g15 at *
  go_enter Tryz.func11, Tryz.ntmps11
  go_wp2_with (go_at_call 53; refine K0.out.mono ?_; rintro e w0 ⟨rfl, rfl⟩; refine Hid.out ?_)
  have hB0 := HB0.out
  refine Lib.hid ?_
  go_wp2_with (go_at_call 54; refine (K1.out _ hB0).mono ?_; rintro e w1 ⟨rfl, hb1⟩; refine Hid.out ?_)
  have hB1 := Below.chain hB0 hb1; clear hB0 hb1
  refine Lib.hid ?_
  go_wp2_with (go_at_call 54; refine (K2.out _ hB1).mono ?_; rintro e w2 ⟨rfl, hb2⟩; refine Hid.out ?_)
  have hB2 := Below.chain hB1 hb2; clear hB1 hb2
  refine Lib.hid ?_
  go_wp2_with (go_at_call 44; refine (K3.out _ hB2).mono ?_; rintro e w3 ⟨rfl, hb3⟩; refine Hid.out ?_)
  have hB3 := Below.chain hB2 hb3; clear hB2 hb3
  refine Lib.hid ?_
  go_wp2_with (go_at_call 48; refine (K4.out _ hB3).mono ?_; rintro e w4 ⟨rfl, hb4⟩; refine Hid.out ?_)
  have hB4 := Below.chain hB3 hb4; clear hB3 hb4
  refine Lib.hid ?_
  go_wp2_with (go_at_call 44; refine (K5.out _ hB4).mono ?_; rintro e w5 ⟨rfl, hb5⟩; refine Hid.out ?_)
  have hB5 := Below.chain hB4 hb5; clear hB4 hb5
  refine Lib.hid ?_
  go_wp2_with (go_at_call 21; refine (K6.out _).mono ?_; rintro e w6 ⟨rfl, h6⟩; subst h6; refine Hid.out ?_)
  refine Lib.hid ?_
  go_wp2_with (go_at_call 54; refine (K7.out _ hB5).mono ?_; rintro e w7 ⟨rfl, hb7⟩; refine Hid.out ?_)
  have hB7 := Below.chain hB5 hb7; clear hB5 hb7
  refine Lib.hid ?_
  go_wp2_with (go_at_call 54; refine (K8.out _ hB7).mono ?_; rintro e w8 ⟨rfl, hb8⟩; refine Hid.out ?_)
  have hB8 := Below.chain hB7 hb8; clear hB7 hb8
  refine Lib.hid ?_
  go_wp2_with (go_at_call 54; refine (K9.out _ hB8).mono ?_; rintro e w9 ⟨rfl, hb9⟩; refine Hid.out ?_)
  have hB9 := Below.chain hB8 hb9; clear hB8 hb9
  refine Lib.hid ?_
  go_wp2_with (go_at_call 54; refine (K10.out _ hB9).mono ?_; rintro e w10 ⟨rfl, hb10⟩; refine Hid.out ?_)
  have hB10 := Below.chain hB9 hb10; clear hB9 hb10
  refine Lib.hid ?_
  rcases HE.out with ⟨rfl, rfl, rfl⟩ | ⟨hz, K11, K12⟩
  · go_wp2_with (go_at_call 17; refine (K13.out _ hB10).mono ?_; rintro e w13 ⟨rfl, hb13⟩; refine Hid.out ?_)
    have hB13 := Below.chain hB10 hb13; clear hB10 hb13
    refine Lib.hid ?_
    go_wp2
    refine bodyPost_ret (v := .bool true) (by simp [results, Tryz.results11, go_sem]) rfl ?_
    exact ⟨rfl, hB13⟩
  · have K11 := Lib.hid K11; have K12 := Lib.hid K12
    go_wp2_with (go_at_call 42; refine (K11.out _ hB10).mono ?_; rintro e w11 ⟨rfl, hb11⟩; refine Hid.out ?_)
    have hB11 := Below.chain hB10 hb11; clear hB10 hb11
    refine Lib.hid ?_
    go_wp2_with (go_at_call 42; refine (K12.out _ hB11).mono ?_; rintro e w12 ⟨rfl, hb12⟩; refine Hid.out ?_)
    have hB12 := Below.chain hB11 hb12; clear hB11 hb12
    refine Lib.hid ?_
    go_wp2_with (go_at_call 17; refine (K13.out _ hB12).mono ?_; rintro e w13 ⟨rfl, hb13⟩; refine Hid.out ?_)
    have hB13 := Below.chain hB12 hb13; clear hB12 hb13
    refine Lib.hid ?_
    go_wp2
    refine bodyPost_ret (v := .bool true) (by simp [results, Tryz.results11, go_sem]) rfl ?_
    exact ⟨rfl, hB13⟩

set_option maxRecDepth 20000 in
set_option maxHeartbeats 4000000 in
theorem divisors_awake (s t u : ByteArray) (w : World) (hs : s.size ≤ 9223372036854775807) (ht : t.size ≤ 9223372036854775807) (hu : u.size ≤ 9223372036854775807) (h : ([s, t, u].all okB && [s, t, u].all fewB) = false)
    (htab : Lib.TabIs Tryz.prog w "internal/strconv.uint64pow10" .u64 Lib.pow10Tab) :
    Calls Tryz.prog 11 #[.string s, .string t, .string u] w fun e w' => e = .returned (.bool true) ∧ Below w.heap.size w w' := by
  have hT := Lib.tabBelow_of_tabIs htab
  have B0 : Below w.heap.size w (w.alloc (Obj.cells #[.string s, .string t, .string u] 22)) := (Below.refl _ _).alloc (Nat.le_refl _) _
  have C0 : Calls Tryz.prog 53 #[.slice (some ⟨w.heap.size, 0, none⟩) 3 3] (w.alloc (Obj.cells #[.string s, .string t, .string u] 22)) fun e w' => e = .returned (.bool ([s, t, u].all okB && [s, t, u].all fewB)) ∧ w' = w.alloc (Obj.cells #[.string s, .string t, .string u] 22) := right_any [s, t, u] w.heap.size 3 _ (fun j h => by
    match j, h with
    | 0, _ => show _ = some (Value.string s); go_cell
    | 1, _ => show _ = some (Value.string t); go_cell
    | 2, _ => show _ = some (Value.string u); go_cell) (fun v hv => by
    simp at hv
    rcases hv with rfl | rfl | rfl <;> omega) (by simp)
  have C10 : ∀ W : World, Below w.heap.size w W → Calls Tryz.prog 17 #[] W fun e w' => e = .returned (.bool true) ∧ Below W.heap.size W w' := fun W hW => awake_any W (hT.on hW).here
  have K10 := Lib.hid C10; have HB0 := Lib.hid B0
  rw [h] at C0
  have K0 := Lib.hid C0
  clear C0 C10 B0 hT htab h
  go_enter Tryz.func11, Tryz.ntmps11
  go_wp2_with (go_at_call 53; refine K0.out.mono ?_; rintro e w0 ⟨rfl, rfl⟩; refine Hid.out ?_)
  refine Lib.hid ?_
  go_wp2_with (go_at_call 17; refine (K10.out _ HB0.out).mono ?_; rintro e w10 ⟨rfl, hb10⟩; refine Hid.out ?_)
  have hB10 := Below.chain HB0.out hb10
  refine Lib.hid ?_
  go_wp2
  refine bodyPost_ret (v := .bool true) (by simp [results, Tryz.results11, go_sem]) rfl ?_
  exact ⟨rfl, hB10⟩

theorem divisors_walk (s t u : ByteArray) (w : World) (hs : s.size ≤ 9223372036854775807) (ht : t.size ≤ 9223372036854775807) (hu : u.size ≤ 9223372036854775807)
    (htab : Lib.TabIs Tryz.prog w "internal/strconv.uint64pow10" .u64 Lib.pow10Tab) :
    Calls Tryz.prog 11 #[.string s, .string t, .string u] w fun e w' => e = .returned (.bool true) ∧ Below w.heap.size w w' := by
  cases hok : ([s, t, u].all okB && [s, t, u].all fewB)
  · exact divisors_awake s t u w hs ht hu hok htab
  · rw [all_three, all_three] at hok
    simp only [Bool.and_eq_true] at hok
    obtain ⟨⟨h1, h2, h3⟩, h4, h5, h6⟩ := hok
    exact divisors_main s t u _ _ _ w (str_of_err (of_decide_eq_true h1)) (str_of_err (of_decide_eq_true h2)) (str_of_err (of_decide_eq_true h3)) (of_decide_eq_true h4) (of_decide_eq_true h5) (of_decide_eq_true h6) htab
end Go.Proofs.YtipnnmbjkpidoaaGreatDoor
