import Derived.Test.YtipnnmbjkpidoaaGreatDoorBase40
import Derived.Test.YtipnnmbjkpidoaaGreatDoorBase35

set_option linter.unusedVariables false
/-
  Quo, Rem of bigint and of the reference for all strings; BigintDivides: the walk.
-/
namespace Go.Proofs.YtipnnmbjkpidoaaGreatDoor
open Go Go.Proofs Go.RowKit

/-- What a division returns. -/
def divR (f : Int → Int → Int) (a b : List UInt8) : Value := if errBoth a b = 0 then (if valZ b = 0 then errV 19 else resV (f (valZ a) (valZ b))) else errV (errBoth a b)
theorem divR_parts (f : Int → Int → Int) (a b : List UInt8) : ∃ (u : ByteArray) (e : Nat), divR f a b = .tuple #[.string u, .int .i64 e] := by
  unfold divR
  split
  · split
    · exact ⟨_, _, rfl⟩
    · exact resV_parts _
  · exact ⟨_, _, rfl⟩
theorem is_zero {t : ByteArray} (h : errOf (bytes t) = 0) (hz : valZ (bytes t) = 0) : t = ⟨#[48]⟩ := by
  have e := txt_of_canon (canon_of_err h)
  rw [hz] at e
  exact txt_is_zero e
theorem div_len (x y : Int) (h : (x.fdiv y).natAbs ≤ x.natAbs) : (Lib.decDigits (x.fdiv y).natAbs).length ≤ (Lib.decDigits x.natAbs).length := by
  have h5 : 0 < (Lib.decDigits x.natAbs).length := List.length_pos_iff.2 (decDigits_ne_nil _)
  exact decDigits_length_le _ _ (by omega) (Nat.lt_of_le_of_lt h (dec_pow (Nat.le_refl _)))

theorem mul_len' (x y : Int) : (Lib.decDigits (x * y).natAbs).length ≤ (Lib.decDigits x.natAbs).length + (Lib.decDigits y.natAbs).length := by
  have p1 : 0 < (Lib.decDigits x.natAbs).length := List.length_pos_iff.2 (decDigits_ne_nil _)
  refine decDigits_length_le _ _ (by omega) ?_
  rw [Int.natAbs_mul, Nat.pow_add]
  exact Nat.mul_lt_mul'' (dec_pow (Nat.le_refl _)) (dec_pow (Nat.le_refl _))

set_option maxHeartbeats 1000000 in
theorem refRestI (s t : ByteArray) (x y : Int) (w : World) (hs : bytes s = Lib.itoa x) (ht : bytes t = Lib.itoa y) (hls : s.size ≤ 1000000) (hlt : t.size ≤ 1000000) (hy0 : y ≠ 0) :
    Calls Tryz.prog 94 #[.string s, .string t] w (Bret (.string (str (Lib.itoa (x.fmod y)))) w) := by
  have C1 := fun W => refFloorI s t x y W hs ht (by omega) (by omega) hy0
  have hq1 := itoa_len (x.fdiv y)
  have hq2 := div_len x y (fdiv_le x y hy0)
  have l1 := txt_len hs; have l2 := txt_len ht
  have C2 := fun W => refProductI t (str (Lib.itoa (x.fdiv y))) y (x.fdiv y) W ht (txt_str _) (by omega) (by omega)
  have hp1 := itoa_len (y * x.fdiv y)
  have hp2 := mul_len' y (x.fdiv y)
  have C3 := fun W => refDiffI s (str (Lib.itoa (y * x.fdiv y))) x (y * x.fdiv y) W hs (txt_str _) (by omega) (by omega)
  have hm : x - y * x.fdiv y = x.fmod y := by have := step_fmod x y; rw [Int.mul_comm]; omega
  rw [hm] at C3
  generalize str (Lib.itoa (x.fdiv y)) = u1 at *
  generalize str (Lib.itoa (y * x.fdiv y)) = u2 at *
  generalize str (Lib.itoa (x.fmod y)) = u3 at *
  have K1 := Lib.hid C1; have K2 := Lib.hid C2; have K3 := Lib.hid C3; clear C1 C2 C3 hs ht hls hlt hy0 hq1 hq2 l1 l2 hp1 hp2 hm
  go_enter Tryz.func94, Tryz.ntmps94
  go_wp2_with (go_at_call 91; refine (K1.out _).mono ?_; rintro e w1 ⟨rfl, hb1⟩; refine Hid.out ?_)
  refine Lib.hid ?_
  go_wp2_with (go_at_call 87; refine (K2.out _).mono ?_; rintro e w2 ⟨rfl, hb2⟩; refine Hid.out ?_)
  refine Lib.hid ?_
  go_wp2_with (go_at_call 84; refine (K3.out _).mono ?_; rintro e w3 ⟨rfl, hb3⟩; refine Hid.out ?_)
  refine Lib.hid ?_
  go_wp2
  go_ret
  exact ⟨rfl, Below.chain hb1 (Below.chain hb2 hb3)⟩

theorem bigQuoR (s t : ByteArray) (w : World) (hs : s.size ≤ 9223372036854775807) (ht : t.size ≤ 9223372036854775807) (htab : Lib.TabIs Tryz.prog w "internal/strconv.uint64pow10" .u64 Lib.pow10Tab) :
    Calls Tryz.prog 40 #[.string s, .string t] w (Bret (divR Int.fdiv (bytes s) (bytes t)) w) := by
  unfold divR
  by_cases h : errBoth (bytes s) (bytes t) = 0
  · rw [if_pos h]
    obtain ⟨h1, h2⟩ := errBoth_zero h
    by_cases hz : valZ (bytes t) = 0
    · rw [if_pos hz]
      obtain rfl := is_zero h2 hz
      exact quo_zero s w hs h1
    · rw [if_neg hz]
      exact quoZ s t _ _ w (str_of_err h1) (str_of_err h2) hz htab
  · rw [if_neg h]
    exact quo_err s t w hs ht h

theorem bigRemR (s t : ByteArray) (w : World) (hs : s.size ≤ 9223372036854775807) (ht : t.size ≤ 9223372036854775807) (htab : Lib.TabIs Tryz.prog w "internal/strconv.uint64pow10" .u64 Lib.pow10Tab) :
    Calls Tryz.prog 42 #[.string s, .string t] w (Bret (divR Int.fmod (bytes s) (bytes t)) w) := by
  unfold divR
  by_cases h : errBoth (bytes s) (bytes t) = 0
  · rw [if_pos h]
    obtain ⟨h1, h2⟩ := errBoth_zero h
    by_cases hz : valZ (bytes t) = 0
    · rw [if_pos hz]
      obtain rfl := is_zero h2 hz
      exact rem_zero s w hs h1
    · rw [if_neg hz]
      exact remZ s t _ _ w (str_of_err h1) (str_of_err h2) hz htab
  · rw [if_neg h]
    exact rem_err s t w hs ht h

set_option maxHeartbeats 2000000 in
theorem refQuoR (s t : ByteArray) (w : World) (hs : s.size ≤ 9223372036854775807) (ht : t.size ≤ 9223372036854775807) :
    Calls Tryz.prog 41 #[.string s, .string t] w (Bret (divR Int.fdiv (bytes s) (bytes t)) w) := by
  have C1 := fun W => refChecks_any s t W hs ht
  unfold divR
  by_cases h : errBoth (bytes s) (bytes t) = 0
  · obtain ⟨h1, h2⟩ := errBoth_zero h
    have z1 := err_size h1; have z2 := err_size h2
    have e1 := txt_of_canon (canon_of_err h1)
    have e2 := txt_of_canon (canon_of_err h2)
    rw [if_pos h]
    rw [h] at C1
    have K1 := Lib.hid C1; clear C1
    by_cases hz : valZ (bytes t) = 0
    · rw [if_pos hz]
      obtain rfl := is_zero h2 hz
      unfold errV
      clear hz h h1 h2 e1 e2 z1 z2
      go_enter Tryz.func41, Tryz.ntmps41
      go_wp2_with (go_at_call 75; refine (K1.out _).mono ?_; rintro e w1 ⟨rfl, h⟩; subst h; refine Hid.out ?_)
      refine Lib.hid ?_
      go_wp2
      refine bodyPost_ret (by simp [results, Tryz.results41, go_sem]; rfl) rfl ?_
      exact ⟨rfl, Below.refl _ _⟩
    · rw [if_neg hz]
      have hd := eq48 t (txt_zero e2 hz)
      have C2 := fun W => refFloorI s t _ _ W e1 e2 (by omega) (by omega) hz
      have hl := div_len (valZ (bytes s)) (valZ (bytes t)) (fdiv_le _ _ hz)
      have hl1 := txt_len e1
      generalize valZ (bytes s) = x at *
      generalize valZ (bytes t) = y at *
      have C3 := fun W => limited_any (str (Lib.itoa (x.fdiv y))) (x.fdiv y) W (txt_str _) (by have := itoa_len (x.fdiv y); omega)
      obtain ⟨u, c, hr⟩ := resV_parts (x.fdiv y)
      rw [hr] at C3 ⊢
      generalize str (Lib.itoa (x.fdiv y)) = R at *
      have K2 := Lib.hid C2; have K3 := Lib.hid C3; clear C2 C3 hz h h1 h2 e1 e2 z1 z2 hr hl hl1
      go_enter Tryz.func41, Tryz.ntmps41
      go_wp2_with (go_at_call 75; refine (K1.out _).mono ?_; rintro e w1 ⟨rfl, h⟩; subst h; refine Hid.out ?_)
      refine Lib.hid ?_
      go_wp2_with (go_at_call 91; refine (K2.out _).mono ?_; rintro e w2 ⟨rfl, hb2⟩; refine Hid.out ?_)
      refine Lib.hid ?_
      go_wp2_with (go_at_call 80; refine (K3.out _).mono ?_; rintro e w3 ⟨rfl, hb3⟩; refine Hid.out ?_)
      refine Lib.hid ?_
      go_wp2
      refine bodyPost_ret (by simp [results, Tryz.results41, go_sem]; rfl) rfl ?_
      exact ⟨rfl, Below.chain hb2 hb3⟩
  · have hc := errBoth_cases (bytes s) (bytes t)
    rw [if_neg h]
    unfold errV
    generalize errBoth (bytes s) (bytes t) = c at *
    have K1 := Lib.hid C1; clear C1
    rcases hc with rfl | rfl | rfl
    · exact absurd rfl h
    all_goals
      clear h
      go_enter Tryz.func41, Tryz.ntmps41
      go_wp2_with (go_at_call 75; refine (K1.out _).mono ?_; rintro e w1 ⟨rfl, h⟩; subst h; refine Hid.out ?_)
      refine Lib.hid ?_
      go_wp2
      refine bodyPost_ret (by simp [results, Tryz.results41, go_sem]; rfl) rfl ?_
      exact ⟨rfl, Below.refl _ _⟩

/-- The remainder is never too long. -/
theorem rem_fits {x y : Int} (hy0 : y ≠ 0) (hl : (Lib.decDigits y.natAbs).length ≤ 4096) : resV (x.fmod y) = .tuple #[.string (str (Lib.itoa (x.fmod y))), .int .i64 0] := by
  refine resV_fits ?_
  have h1 := fmod_natAbs_lt x y hy0
  have h5 : 0 < (Lib.decDigits y.natAbs).length := List.length_pos_iff.2 (decDigits_ne_nil _)
  have h2 : y.natAbs < 10 ^ (Lib.decDigits y.natAbs).length := dec_pow (Nat.le_refl _)
  have h3 := decDigits_length_le (x.fmod y).natAbs _ h5 (Nat.lt_trans h1 h2)
  omega
theorem quo_fits {x y : Int} (hy0 : y ≠ 0) (hl : (Lib.decDigits x.natAbs).length ≤ 4096) : resV (x.fdiv y) = .tuple #[.string (str (Lib.itoa (x.fdiv y))), .int .i64 0] := by
  refine resV_fits ?_
  have := div_len x y (fdiv_le x y hy0)
  omega

set_option maxHeartbeats 2000000 in
theorem refRemR (s t : ByteArray) (w : World) (hs : s.size ≤ 9223372036854775807) (ht : t.size ≤ 9223372036854775807) :
    Calls Tryz.prog 43 #[.string s, .string t] w (Bret (divR Int.fmod (bytes s) (bytes t)) w) := by
  have C1 := fun W => refQuoR s t W hs ht
  unfold divR at *
  by_cases h : errBoth (bytes s) (bytes t) = 0
  · obtain ⟨h1, h2⟩ := errBoth_zero h
    have z1 := err_size h1; have z2 := err_size h2
    have e1 := txt_of_canon (canon_of_err h1)
    have e2 := txt_of_canon (canon_of_err h2)
    rw [if_pos h] at C1 ⊢
    by_cases hz : valZ (bytes t) = 0
    · rw [if_pos hz] at C1 ⊢
      unfold errV at *
      have K1 := Lib.hid C1; clear C1
      clear hz h h1 h2 e1 e2 z1 z2
      go_enter Tryz.func43, Tryz.ntmps43
      go_wp2_with (go_at_call 41; refine (K1.out _).mono ?_; rintro e w1 ⟨rfl, hb1⟩; refine Hid.out ?_)
      refine Lib.hid ?_
      go_wp2
      refine bodyPost_ret (by simp [results, Tryz.results43, go_sem]; rfl) rfl ?_
      exact ⟨rfl, hb1⟩
    · rw [if_neg hz] at C1 ⊢
      have C2 := fun W => refRestI s t _ _ W e1 e2 (by omega) (by omega) hz
      rw [rem_fits hz (str_of_err h2).len]
      rw [quo_fits hz (str_of_err h1).len] at C1
      generalize str (Lib.itoa (Int.fdiv (valZ (bytes s)) (valZ (bytes t)))) = R1 at *
      generalize str (Lib.itoa (Int.fmod (valZ (bytes s)) (valZ (bytes t)))) = R2 at *
      have K1 := Lib.hid C1; have K2 := Lib.hid C2; clear C1 C2 hz h h1 h2 e1 e2 z1 z2
      go_enter Tryz.func43, Tryz.ntmps43
      go_wp2_with (go_at_call 41; refine (K1.out _).mono ?_; rintro e w1 ⟨rfl, hb1⟩; refine Hid.out ?_)
      refine Lib.hid ?_
      go_wp2_with (go_at_call 94; refine (K2.out _).mono ?_; rintro e w2 ⟨rfl, hb2⟩; refine Hid.out ?_)
      refine Lib.hid ?_
      go_wp2
      refine bodyPost_ret (by simp [results, Tryz.results43, go_sem]; rfl) rfl ?_
      exact ⟨rfl, Below.chain hb1 hb2⟩
  · have hc := errBoth_cases (bytes s) (bytes t)
    rw [if_neg h] at C1 ⊢
    unfold errV at *
    generalize errBoth (bytes s) (bytes t) = c at *
    have K1 := Lib.hid C1; clear C1
    rcases hc with rfl | rfl | rfl
    · exact absurd rfl h
    all_goals
      clear h
      go_enter Tryz.func43, Tryz.ntmps43
      go_wp2_with (go_at_call 41; refine (K1.out _).mono ?_; rintro e w1 ⟨rfl, hb1⟩; refine Hid.out ?_)
      refine Lib.hid ?_
      go_wp2
      refine bodyPost_ret (by simp [results, Tryz.results43, go_sem]; rfl) rfl ?_
      exact ⟨rfl, hb1⟩

set_option maxRecDepth 20000 in
set_option maxHeartbeats 8000000 in
theorem divides_walk (s t : ByteArray) (w : World) (hs : s.size ≤ 9223372036854775807) (ht : t.size ≤ 9223372036854775807)
    (htab : Lib.TabIs Tryz.prog w "internal/strconv.uint64pow10" .u64 Lib.pow10Tab) :
    Calls Tryz.prog 6 #[.string s, .string t] w fun e w' => e = .returned (.bool true) ∧ Below w.heap.size w w' := by
  have hT := Lib.tabBelow_of_tabIs htab
  have B0 : Below w.heap.size w (w.alloc (Obj.cells #[.string s, .string t] 22)) := (Below.refl _ _).alloc (Nat.le_refl _) _
  have C0 := few_two s t w hs ht
  have C7 : ∀ W : World, Below w.heap.size w W → Calls Tryz.prog 17 #[] W (Bret (.bool true) W) := fun W hW => awake_any W (hT.on hW).here
  have K7 := Lib.hid C7; have HB0 := Lib.hid B0
  clear C7 B0
  cases hf : fewB s && fewB t
  · rw [hf] at C0
    have K0 := Lib.hid C0; clear C0 hf hs ht hT htab
    go_enter Tryz.func6, Tryz.ntmps6
    go_wp2_with (go_at_call 16; refine K0.out.mono ?_; rintro e w0 ⟨rfl, rfl⟩; refine Hid.out ?_)
    have hB0 := HB0.out
    refine Lib.hid ?_
    go_wp2_with (go_at_call 17; refine (K7.out _ hB0).mono ?_; rintro e w1 ⟨rfl, hb1⟩; refine Hid.out ?_)
    have hB1 := Below.chain hB0 hb1; clear hb1 hB0
    refine Lib.hid ?_
    go_wp2
    refine bodyPost_ret (v := .bool true) (by simp [results, Tryz.results6, go_sem]) rfl ?_
    exact ⟨rfl, hB1⟩
  · rw [hf] at C0
    have K0 := Lib.hid C0; clear C0 hf
    have C1 : ∀ W : World, Below w.heap.size w W → Calls Tryz.prog 40 #[.string s, .string t] W (Bret (divR Int.fdiv (bytes s) (bytes t)) W) := fun W hW => bigQuoR s t W hs ht (hT.on hW).here
    have C2 : ∀ W : World, Below w.heap.size w W → Calls Tryz.prog 41 #[.string s, .string t] W (Bret (divR Int.fdiv (bytes s) (bytes t)) W) := fun W hW => refQuoR s t W hs ht
    obtain ⟨u0, e0, h0⟩ := divR_parts Int.fdiv (bytes s) (bytes t)
    rw [h0] at C1 C2
    clear h0
    have C3 : ∀ W : World, Below w.heap.size w W → Calls Tryz.prog 42 #[.string s, .string t] W (Bret (divR Int.fmod (bytes s) (bytes t)) W) := fun W hW => bigRemR s t W hs ht (hT.on hW).here
    have C4 : ∀ W : World, Below w.heap.size w W → Calls Tryz.prog 43 #[.string s, .string t] W (Bret (divR Int.fmod (bytes s) (bytes t)) W) := fun W hW => refRemR s t W hs ht
    obtain ⟨u2, e2, h2⟩ := divR_parts Int.fmod (bytes s) (bytes t)
    rw [h2] at C3 C4
    clear h2
    have K1 := Lib.hid C1; have K2 := Lib.hid C2; have K3 := Lib.hid C3; have K4 := Lib.hid C4
    clear C1 C2 C3 C4 hs ht hT htab
    go_enter Tryz.func6, Tryz.ntmps6
    go_wp2_with (go_at_call 16; refine K0.out.mono ?_; rintro e w0 ⟨rfl, rfl⟩; refine Hid.out ?_)
    have hB0 := HB0.out
    refine Lib.hid ?_
    go_wp2_with (go_at_call 40; refine (K1.out _ hB0).mono ?_; rintro e w1 ⟨rfl, hb1⟩; refine Hid.out ?_)
    have hB1 := Below.chain hB0 hb1; clear hb1 hB0
    refine Lib.hid ?_
    go_wp2_with (go_at_call 41; refine (K2.out _ hB1).mono ?_; rintro e w2 ⟨rfl, hb2⟩; refine Hid.out ?_)
    have hB2 := Below.chain hB1 hb2; clear hb2 hB1
    refine Lib.hid ?_
    go_wp2_with (go_at_call 42; refine (K3.out _ hB2).mono ?_; rintro e w3 ⟨rfl, hb3⟩; refine Hid.out ?_)
    have hB3 := Below.chain hB2 hb3; clear hb3 hB2
    refine Lib.hid ?_
    go_wp2_with (go_at_call 43; refine (K4.out _ hB3).mono ?_; rintro e w4 ⟨rfl, hb4⟩; refine Hid.out ?_)
    have hB4 := Below.chain hB3 hb4; clear hb4 hB3
    refine Lib.hid ?_
    go_wp2_with (go_at_call 17; refine (K7.out _ hB4).mono ?_; rintro e w5 ⟨rfl, hb5⟩; refine Hid.out ?_)
    have hB5 := Below.chain hB4 hb5; clear hb5 hB4
    refine Lib.hid ?_
    go_wp2
    refine bodyPost_ret (v := .bool true) (by simp [results, Tryz.results6, go_sem]) rfl ?_
    exact ⟨rfl, hB5⟩
end Go.Proofs.YtipnnmbjkpidoaaGreatDoor
