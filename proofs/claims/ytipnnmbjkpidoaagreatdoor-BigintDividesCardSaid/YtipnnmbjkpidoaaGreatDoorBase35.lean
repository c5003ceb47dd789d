import Derived.Test.YtipnnmbjkpidoaaGreatDoorBase34
import Derived.Test.YtipnnmbjkpidoaaGreatDoorBase30

set_option linter.unusedVariables false
/-
  Add, Sub, Mul of bigint and of the reference for all strings; BigintAdds: the walk.
-/
namespace Go.Proofs.YtipnnmbjkpidoaaGreatDoor
open Go Go.Proofs Go.RowKit

/-- What an operation returns: the result, or the first error of both. -/
def opR (f : Int → Int → Int) (a b : List UInt8) : Value := if errBoth a b = 0 then resV (f (valZ a) (valZ b)) else errV (errBoth a b)
theorem opR_parts (f : Int → Int → Int) (a b : List UInt8) : ∃ (u : ByteArray) (e : Nat), opR f a b = .tuple #[.string u, .int .i64 e] := by
  unfold opR
  split
  · exact resV_parts _
  · exact ⟨_, _, rfl⟩
theorem err_size {s : ByteArray} (h : errOf (bytes s) = 0) : s.size ≤ 4097 := (str_of_err h).size

set_option maxHeartbeats 1000000 in
theorem bigAdd_err (s t : ByteArray) (w : World) (hs : s.size ≤ 9223372036854775807) (ht : t.size ≤ 9223372036854775807) (h : errBoth (bytes s) (bytes t) ≠ 0) :
    Calls Tryz.prog 34 #[.string s, .string t] w (Bret (errV (errBoth (bytes s) (bytes t))) w) := by
  have C := compute_err 78 79 s t w hs ht h
  unfold errV at *
  unfold opV at C
  generalize errBoth (bytes s) (bytes t) = c at *
  have HC := Lib.hid C; clear C h
  go_enter Tryz.func34, Tryz.ntmps34
  go_wp2_with (go_at_call 77; refine HC.out.mono ?_; rintro e w2 ⟨rfl, hb2⟩; refine Hid.out ?_)
  refine Lib.hid ?_
  go_wp2
  refine bodyPost_ret (by simp [results, Tryz.results34, go_sem]; rfl) rfl ?_
  exact ⟨rfl, hb2⟩
theorem bigAddR (s t : ByteArray) (w : World) (hs : s.size ≤ 9223372036854775807) (ht : t.size ≤ 9223372036854775807) (htab : Lib.TabIs Tryz.prog w "internal/strconv.uint64pow10" .u64 Lib.pow10Tab) :
    Calls Tryz.prog 34 #[.string s, .string t] w (Bret (opR (fun x y => x + y) (bytes s) (bytes t)) w) := by
  unfold opR
  by_cases h : errBoth (bytes s) (bytes t) = 0
  · rw [if_pos h]
    obtain ⟨h1, h2⟩ := errBoth_zero h
    exact addZ s t _ _ w (str_of_err h1) (str_of_err h2) htab
  · rw [if_neg h]
    exact bigAdd_err s t w hs ht h

set_option maxHeartbeats 1000000 in
theorem refAddR (s t : ByteArray) (w : World) (hs : s.size ≤ 9223372036854775807) (ht : t.size ≤ 9223372036854775807) :
    Calls Tryz.prog 35 #[.string s, .string t] w (Bret (opR (fun x y => x + y) (bytes s) (bytes t)) w) := by
  have C1 := fun W => refChecks_any s t W hs ht
  by_cases h : errBoth (bytes s) (bytes t) = 0
  · obtain ⟨h1, h2⟩ := errBoth_zero h
    have z1 := err_size h1; have z2 := err_size h2
    have q1 := str_of_err h1; have q2 := str_of_err h2
    have e1 := txt_of_canon (canon_of_err h1)
    have e2 := txt_of_canon (canon_of_err h2)
    have C2 := fun W => refSumI s t _ _ W e1 e2 (by omega) (by omega)
    unfold opR
    rw [if_pos h]
    rw [h] at C1
    generalize valZ (bytes s) = x at *
    generalize valZ (bytes t) = y at *
    show Calls _ _ _ _ (Bret (resV (x + y)) w)
    have C3 := fun W => limited_any (str (Lib.itoa (x + y))) (x + y) W (txt_str _) (by
      have h3 := itoa_len (x + y)
      have h4 : (Lib.decDigits (x + y).natAbs).length ≤ 100000 := by
        obtain ⟨k, hk⟩ : ∃ k : Nat, k = 5000 := ⟨_, rfl⟩
        refine Nat.le_trans (decDigits_length_le (x + y).natAbs (k + 1) (by omega) ?_) (by omega)
        have a1 := q1.lt (k := k) (by omega); have a2 := q2.lt (k := k) (by omega)
        rw [Nat.pow_succ]
        generalize (10 : Nat) ^ k = p at *
        omega
      omega)
    obtain ⟨u, c, hr⟩ := resV_parts (x + y)
    rw [hr] at C3 ⊢
    generalize str (Lib.itoa (x + y)) = R at *
    have K1 := Lib.hid C1; have K2 := Lib.hid C2; have K3 := Lib.hid C3; clear C1 C2 C3 e1 e2 h h1 h2 hr q1 q2
    go_enter Tryz.func35, Tryz.ntmps35
    go_wp2_with (go_at_call 75; refine (K1.out _).mono ?_; rintro e w1 ⟨rfl, h⟩; subst h; refine Hid.out ?_)
    refine Lib.hid ?_
    go_wp2_with (go_at_call 81; refine (K2.out _).mono ?_; rintro e w2 ⟨rfl, hb2⟩; refine Hid.out ?_)
    refine Lib.hid ?_
    go_wp2_with (go_at_call 80; refine (K3.out _).mono ?_; rintro e w3 ⟨rfl, hb3⟩; refine Hid.out ?_)
    refine Lib.hid ?_
    go_wp2
    refine bodyPost_ret (by simp [results, Tryz.results35, go_sem]; rfl) rfl ?_
    exact ⟨rfl, Below.chain hb2 hb3⟩
  · have hc := errBoth_cases (bytes s) (bytes t)
    unfold opR
    rw [if_neg h]
    unfold errV
    generalize errBoth (bytes s) (bytes t) = c at *
    have K1 := Lib.hid C1; clear C1
    rcases hc with rfl | rfl | rfl
    · exact absurd rfl h
    all_goals
      clear h
      go_enter Tryz.func35, Tryz.ntmps35
      go_wp2_with (go_at_call 75; refine (K1.out _).mono ?_; rintro e w1 ⟨rfl, h⟩; subst h; refine Hid.out ?_)
      refine Lib.hid ?_
      go_wp2
      refine bodyPost_ret (by simp [results, Tryz.results35, go_sem]; rfl) rfl ?_
      exact ⟨rfl, Below.refl _ _⟩

set_option maxHeartbeats 1000000 in
theorem bigSub_err (s t : ByteArray) (w : World) (hs : s.size ≤ 9223372036854775807) (ht : t.size ≤ 9223372036854775807) (h : errBoth (bytes s) (bytes t) ≠ 0) :
    Calls Tryz.prog 36 #[.string s, .string t] w (Bret (errV (errBoth (bytes s) (bytes t))) w) := by
  have C := compute_err 82 83 s t w hs ht h
  unfold errV at *
  unfold opV at C
  generalize errBoth (bytes s) (bytes t) = c at *
  have HC := Lib.hid C; clear C h
  go_enter Tryz.func36, Tryz.ntmps36
  go_wp2_with (go_at_call 77; refine HC.out.mono ?_; rintro e w2 ⟨rfl, hb2⟩; refine Hid.out ?_)
  refine Lib.hid ?_
  go_wp2
  refine bodyPost_ret (by simp [results, Tryz.results36, go_sem]; rfl) rfl ?_
  exact ⟨rfl, hb2⟩
theorem bigSubR (s t : ByteArray) (w : World) (hs : s.size ≤ 9223372036854775807) (ht : t.size ≤ 9223372036854775807) (htab : Lib.TabIs Tryz.prog w "internal/strconv.uint64pow10" .u64 Lib.pow10Tab) :
    Calls Tryz.prog 36 #[.string s, .string t] w (Bret (opR (fun x y => x - y) (bytes s) (bytes t)) w) := by
  unfold opR
  by_cases h : errBoth (bytes s) (bytes t) = 0
  · rw [if_pos h]
    obtain ⟨h1, h2⟩ := errBoth_zero h
    exact subZ s t _ _ w (str_of_err h1) (str_of_err h2) htab
  · rw [if_neg h]
    exact bigSub_err s t w hs ht h

set_option maxHeartbeats 1000000 in
theorem refSubR (s t : ByteArray) (w : World) (hs : s.size ≤ 9223372036854775807) (ht : t.size ≤ 9223372036854775807) :
    Calls Tryz.prog 37 #[.string s, .string t] w (Bret (opR (fun x y => x - y) (bytes s) (bytes t)) w) := by
  have C1 := fun W => refChecks_any s t W hs ht
  by_cases h : errBoth (bytes s) (bytes t) = 0
  · obtain ⟨h1, h2⟩ := errBoth_zero h
    have z1 := err_size h1; have z2 := err_size h2
    have q1 := str_of_err h1; have q2 := str_of_err h2
    have e1 := txt_of_canon (canon_of_err h1)
    have e2 := txt_of_canon (canon_of_err h2)
    have C2 := fun W => refDiffI s t _ _ W e1 e2 (by omega) (by omega)
    unfold opR
    rw [if_pos h]
    rw [h] at C1
    generalize valZ (bytes s) = x at *
    generalize valZ (bytes t) = y at *
    show Calls _ _ _ _ (Bret (resV (x - y)) w)
    have C3 := fun W => limited_any (str (Lib.itoa (x - y))) (x - y) W (txt_str _) (by
      have h3 := itoa_len (x - y)
      have h4 : (Lib.decDigits (x - y).natAbs).length ≤ 100000 := by
        obtain ⟨k, hk⟩ : ∃ k : Nat, k = 5000 := ⟨_, rfl⟩
        refine Nat.le_trans (decDigits_length_le (x - y).natAbs (k + 1) (by omega) ?_) (by omega)
        have a1 := q1.lt (k := k) (by omega); have a2 := q2.lt (k := k) (by omega)
        rw [Nat.pow_succ]
        generalize (10 : Nat) ^ k = p at *
        omega
      omega)
    obtain ⟨u, c, hr⟩ := resV_parts (x - y)
    rw [hr] at C3 ⊢
    generalize str (Lib.itoa (x - y)) = R at *
    have K1 := Lib.hid C1; have K2 := Lib.hid C2; have K3 := Lib.hid C3; clear C1 C2 C3 e1 e2 h h1 h2 hr q1 q2
    go_enter Tryz.func37, Tryz.ntmps37
    go_wp2_with (go_at_call 75; refine (K1.out _).mono ?_; rintro e w1 ⟨rfl, h⟩; subst h; refine Hid.out ?_)
    refine Lib.hid ?_
    go_wp2_with (go_at_call 84; refine (K2.out _).mono ?_; rintro e w2 ⟨rfl, hb2⟩; refine Hid.out ?_)
    refine Lib.hid ?_
    go_wp2_with (go_at_call 80; refine (K3.out _).mono ?_; rintro e w3 ⟨rfl, hb3⟩; refine Hid.out ?_)
    refine Lib.hid ?_
    go_wp2
    refine bodyPost_ret (by simp [results, Tryz.results37, go_sem]; rfl) rfl ?_
    exact ⟨rfl, Below.chain hb2 hb3⟩
  · have hc := errBoth_cases (bytes s) (bytes t)
    unfold opR
    rw [if_neg h]
    unfold errV
    generalize errBoth (bytes s) (bytes t) = c at *
    have K1 := Lib.hid C1; clear C1
    rcases hc with rfl | rfl | rfl
    · exact absurd rfl h
    all_goals
      clear h
      go_enter Tryz.func37, Tryz.ntmps37
      go_wp2_with (go_at_call 75; refine (K1.out _).mono ?_; rintro e w1 ⟨rfl, h⟩; subst h; refine Hid.out ?_)
      refine Lib.hid ?_
      go_wp2
      refine bodyPost_ret (by simp [results, Tryz.results37, go_sem]; rfl) rfl ?_
      exact ⟨rfl, Below.refl _ _⟩

set_option maxHeartbeats 1000000 in
theorem bigMul_err (s t : ByteArray) (w : World) (hs : s.size ≤ 9223372036854775807) (ht : t.size ≤ 9223372036854775807) (h : errBoth (bytes s) (bytes t) ≠ 0) :
    Calls Tryz.prog 38 #[.string s, .string t] w (Bret (errV (errBoth (bytes s) (bytes t))) w) := by
  have C := compute_err 85 86 s t w hs ht h
  unfold errV at *
  unfold opV at C
  generalize errBoth (bytes s) (bytes t) = c at *
  have HC := Lib.hid C; clear C h
  go_enter Tryz.func38, Tryz.ntmps38
  go_wp2_with (go_at_call 77; refine HC.out.mono ?_; rintro e w2 ⟨rfl, hb2⟩; refine Hid.out ?_)
  refine Lib.hid ?_
  go_wp2
  refine bodyPost_ret (by simp [results, Tryz.results38, go_sem]; rfl) rfl ?_
  exact ⟨rfl, hb2⟩
theorem bigMulR (s t : ByteArray) (w : World) (hs : s.size ≤ 9223372036854775807) (ht : t.size ≤ 9223372036854775807) (htab : Lib.TabIs Tryz.prog w "internal/strconv.uint64pow10" .u64 Lib.pow10Tab) :
    Calls Tryz.prog 38 #[.string s, .string t] w (Bret (opR (fun x y => x * y) (bytes s) (bytes t)) w) := by
  unfold opR
  by_cases h : errBoth (bytes s) (bytes t) = 0
  · rw [if_pos h]
    obtain ⟨h1, h2⟩ := errBoth_zero h
    exact mulZ s t _ _ w (str_of_err h1) (str_of_err h2) htab
  · rw [if_neg h]
    exact bigMul_err s t w hs ht h

set_option maxHeartbeats 1000000 in
theorem refMulR (s t : ByteArray) (w : World) (hs : s.size ≤ 9223372036854775807) (ht : t.size ≤ 9223372036854775807) :
    Calls Tryz.prog 39 #[.string s, .string t] w (Bret (opR (fun x y => x * y) (bytes s) (bytes t)) w) := by
  have C1 := fun W => refChecks_any s t W hs ht
  by_cases h : errBoth (bytes s) (bytes t) = 0
  · obtain ⟨h1, h2⟩ := errBoth_zero h
    have z1 := err_size h1; have z2 := err_size h2
    have q1 := str_of_err h1; have q2 := str_of_err h2
    have e1 := txt_of_canon (canon_of_err h1)
    have e2 := txt_of_canon (canon_of_err h2)
    have C2 := fun W => refProductI s t _ _ W e1 e2 (by omega) (by omega)
    unfold opR
    rw [if_pos h]
    rw [h] at C1
    generalize valZ (bytes s) = x at *
    generalize valZ (bytes t) = y at *
    show Calls _ _ _ _ (Bret (resV (x * y)) w)
    have C3 := fun W => limited_any (str (Lib.itoa (x * y))) (x * y) W (txt_str _) (by
      have h3 := itoa_len (x * y)
      have h4 : (Lib.decDigits (x * y).natAbs).length ≤ 100000 := by
        obtain ⟨k, hk⟩ : ∃ k : Nat, k = 5000 := ⟨_, rfl⟩
        refine Nat.le_trans (decDigits_length_le (x * y).natAbs (k + k) (by omega) ?_) (by omega)
        rw [Int.natAbs_mul, Nat.pow_add]
        exact Nat.mul_lt_mul'' (q1.lt (by omega)) (q2.lt (by omega))
      omega)
    obtain ⟨u, c, hr⟩ := resV_parts (x * y)
    rw [hr] at C3 ⊢
    generalize str (Lib.itoa (x * y)) = R at *
    have K1 := Lib.hid C1; have K2 := Lib.hid C2; have K3 := Lib.hid C3; clear C1 C2 C3 e1 e2 h h1 h2 hr q1 q2
    go_enter Tryz.func39, Tryz.ntmps39
    go_wp2_with (go_at_call 75; refine (K1.out _).mono ?_; rintro e w1 ⟨rfl, h⟩; subst h; refine Hid.out ?_)
    refine Lib.hid ?_
    go_wp2_with (go_at_call 87; refine (K2.out _).mono ?_; rintro e w2 ⟨rfl, hb2⟩; refine Hid.out ?_)
    refine Lib.hid ?_
    go_wp2_with (go_at_call 80; refine (K3.out _).mono ?_; rintro e w3 ⟨rfl, hb3⟩; refine Hid.out ?_)
    refine Lib.hid ?_
    go_wp2
    refine bodyPost_ret (by simp [results, Tryz.results39, go_sem]; rfl) rfl ?_
    exact ⟨rfl, Below.chain hb2 hb3⟩
  · have hc := errBoth_cases (bytes s) (bytes t)
    unfold opR
    rw [if_neg h]
    unfold errV
    generalize errBoth (bytes s) (bytes t) = c at *
    have K1 := Lib.hid C1; clear C1
    rcases hc with rfl | rfl | rfl
    · exact absurd rfl h
    all_goals
      clear h
      go_enter Tryz.func39, Tryz.ntmps39
      go_wp2_with (go_at_call 75; refine (K1.out _).mono ?_; rintro e w1 ⟨rfl, h⟩; subst h; refine Hid.out ?_)
      refine Lib.hid ?_
      go_wp2
      refine bodyPost_ret (by simp [results, Tryz.results39, go_sem]; rfl) rfl ?_
      exact ⟨rfl, Below.refl _ _⟩

/-- The law's first step at two strings: few. -/
theorem few_two (s t : ByteArray) (w : World) (hs : s.size ≤ 9223372036854775807) (ht : t.size ≤ 9223372036854775807) :
    Calls Tryz.prog 16 #[.slice (some ⟨w.heap.size, 0, none⟩) 2 2] (w.alloc (Obj.cells #[.string s, .string t] 22)) fun e w' => e = .returned (.bool (fewB s && fewB t)) ∧ w' = w.alloc (Obj.cells #[.string s, .string t] 22) := by
  have := few_any [s, t] w.heap.size 2 (w.alloc (Obj.cells #[.string s, .string t] 22)) (fun j h => by
    match j, h with
    | 0, _ => show _ = some (Value.string s); go_cell
    | 1, _ => show _ = some (Value.string t); go_cell) (fun u hu => by
    simp at hu
    rcases hu with rfl | rfl <;> omega) (by simp)
  rwa [all_two] at this

set_option maxRecDepth 20000 in
set_option maxHeartbeats 8000000 in
theorem adds_walk (s t : ByteArray) (w : World) (hs : s.size ≤ 9223372036854775807) (ht : t.size ≤ 9223372036854775807)
    (htab : Lib.TabIs Tryz.prog w "internal/strconv.uint64pow10" .u64 Lib.pow10Tab) :
    Calls Tryz.prog 5 #[.string s, .string t] w fun e w' => e = .returned (.bool true) ∧ Below w.heap.size w w' := by
  have hT := Lib.tabBelow_of_tabIs htab
  have B0 : Below w.heap.size w (w.alloc (Obj.cells #[.string s, .string t] 22)) := (Below.refl _ _).alloc (Nat.le_refl _) _
  have C0 := few_two s t w hs ht
  have C7 : ∀ W : World, Below w.heap.size w W → Calls Tryz.prog 17 #[] W (Bret (.bool true) W) := fun W hW => awake_any W (hT.on hW).here
  have K7 := Lib.hid C7; have HB0 := Lib.hid B0
  clear C7 B0
  cases hf : fewB s && fewB t
  · rw [hf] at C0
    have K0 := Lib.hid C0; clear C0 hf hs ht hT htab
    go_enter Tryz.func5, Tryz.ntmps5
    go_wp2_with (go_at_call 16; refine K0.out.mono ?_; rintro e w0 ⟨rfl, rfl⟩; refine Hid.out ?_)
    have hB0 := HB0.out
    refine Lib.hid ?_
    go_wp2_with (go_at_call 17; refine (K7.out _ hB0).mono ?_; rintro e w1 ⟨rfl, hb1⟩; refine Hid.out ?_)
    have hB1 := Below.chain hB0 hb1; clear hb1 hB0
    refine Lib.hid ?_
    go_wp2
    refine bodyPost_ret (v := .bool true) (by simp [results, Tryz.results5, go_sem]) rfl ?_
    exact ⟨rfl, hB1⟩
  · rw [hf] at C0
    have K0 := Lib.hid C0; clear C0 hf
    have C1 : ∀ W : World, Below w.heap.size w W → Calls Tryz.prog 34 #[.string s, .string t] W (Bret (opR (fun x y => x + y) (bytes s) (bytes t)) W) := fun W hW => bigAddR s t W hs ht (hT.on hW).here
    have C2 : ∀ W : World, Below w.heap.size w W → Calls Tryz.prog 35 #[.string s, .string t] W (Bret (opR (fun x y => x + y) (bytes s) (bytes t)) W) := fun W hW => refAddR s t W hs ht
    obtain ⟨u0, e0, h0⟩ := opR_parts (fun x y => x + y) (bytes s) (bytes t)
    rw [h0] at C1 C2
    clear h0
    have C3 : ∀ W : World, Below w.heap.size w W → Calls Tryz.prog 36 #[.string s, .string t] W (Bret (opR (fun x y => x - y) (bytes s) (bytes t)) W) := fun W hW => bigSubR s t W hs ht (hT.on hW).here
    have C4 : ∀ W : World, Below w.heap.size w W → Calls Tryz.prog 37 #[.string s, .string t] W (Bret (opR (fun x y => x - y) (bytes s) (bytes t)) W) := fun W hW => refSubR s t W hs ht
    obtain ⟨u2, e2, h2⟩ := opR_parts (fun x y => x - y) (bytes s) (bytes t)
    rw [h2] at C3 C4
    clear h2
    have C5 : ∀ W : World, Below w.heap.size w W → Calls Tryz.prog 38 #[.string s, .string t] W (Bret (opR (fun x y => x * y) (bytes s) (bytes t)) W) := fun W hW => bigMulR s t W hs ht (hT.on hW).here
    have C6 : ∀ W : World, Below w.heap.size w W → Calls Tryz.prog 39 #[.string s, .string t] W (Bret (opR (fun x y => x * y) (bytes s) (bytes t)) W) := fun W hW => refMulR s t W hs ht
    obtain ⟨u4, e4, h4⟩ := opR_parts (fun x y => x * y) (bytes s) (bytes t)
    rw [h4] at C5 C6
    clear h4
    have K1 := Lib.hid C1; have K2 := Lib.hid C2; have K3 := Lib.hid C3; have K4 := Lib.hid C4; have K5 := Lib.hid C5; have K6 := Lib.hid C6
    clear C1 C2 C3 C4 C5 C6 hs ht hT htab
    go_enter Tryz.func5, Tryz.ntmps5
    go_wp2_with (go_at_call 16; refine K0.out.mono ?_; rintro e w0 ⟨rfl, rfl⟩; refine Hid.out ?_)
    have hB0 := HB0.out
    refine Lib.hid ?_
    go_wp2_with (go_at_call 34; refine (K1.out _ hB0).mono ?_; rintro e w1 ⟨rfl, hb1⟩; refine Hid.out ?_)
    have hB1 := Below.chain hB0 hb1; clear hb1 hB0
    refine Lib.hid ?_
    go_wp2_with (go_at_call 35; refine (K2.out _ hB1).mono ?_; rintro e w2 ⟨rfl, hb2⟩; refine Hid.out ?_)
    have hB2 := Below.chain hB1 hb2; clear hb2 hB1
    refine Lib.hid ?_
    go_wp2_with (go_at_call 36; refine (K3.out _ hB2).mono ?_; rintro e w3 ⟨rfl, hb3⟩; refine Hid.out ?_)
    have hB3 := Below.chain hB2 hb3; clear hb3 hB2
    refine Lib.hid ?_
    go_wp2_with (go_at_call 37; refine (K4.out _ hB3).mono ?_; rintro e w4 ⟨rfl, hb4⟩; refine Hid.out ?_)
    have hB4 := Below.chain hB3 hb4; clear hb4 hB3
    refine Lib.hid ?_
    go_wp2_with (go_at_call 38; refine (K5.out _ hB4).mono ?_; rintro e w5 ⟨rfl, hb5⟩; refine Hid.out ?_)
    have hB5 := Below.chain hB4 hb5; clear hb5 hB4
    refine Lib.hid ?_
    go_wp2_with (go_at_call 39; refine (K6.out _ hB5).mono ?_; rintro e w6 ⟨rfl, hb6⟩; refine Hid.out ?_)
    have hB6 := Below.chain hB5 hb6; clear hb6 hB5
    refine Lib.hid ?_
    go_wp2_with (go_at_call 17; refine (K7.out _ hB6).mono ?_; rintro e w7 ⟨rfl, hb7⟩; refine Hid.out ?_)
    have hB7 := Below.chain hB6 hb7; clear hb7 hB6
    refine Lib.hid ?_
    go_wp2
    refine bodyPost_ret (v := .bool true) (by simp [results, Tryz.results5, go_sem]) rfl ?_
    exact ⟨rfl, hB7⟩
end Go.Proofs.YtipnnmbjkpidoaaGreatDoor
