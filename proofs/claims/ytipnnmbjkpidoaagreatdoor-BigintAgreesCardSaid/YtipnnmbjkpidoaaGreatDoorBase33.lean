import Derived.Test.YtipnnmbjkpidoaaGreatDoorBase32

set_option linter.unusedVariables false
/-
  bigint: compute with errors, divide, Quo, Rem.
-/
namespace Go.Proofs.YtipnnmbjkpidoaaGreatDoor
open Go Go.Proofs Go.RowKit

/-- What an operation returns with an error. -/
def errV (e : Nat) : Value := .tuple #[.string ⟨#[]⟩, .int .i64 (e : Nat)]

set_option maxHeartbeats 1000000 in
theorem compute_err (fs fl : Nat) (s t : ByteArray) (w : World) (hs : s.size ≤ 9223372036854775807) (ht : t.size ≤ 9223372036854775807) (h : errBoth (bytes s) (bytes t) ≠ 0) :
    Calls Tryz.prog 77 #[opV fs fl, .string s, .string t] w fun e w' => e = .returned (errV (errBoth (bytes s) (bytes t))) ∧ Below w.heap.size w w' := by
  have CB := fun W => checkBoth_any s t W hs ht
  rcases errBoth_cases (bytes s) (bytes t) with h0 | h0 | h0
  · exact absurd h0 h
  all_goals
    rw [h0] at CB ⊢
    have HCB := Lib.hid CB
    clear CB h h0 hs ht
    unfold opV errV
    go_enter Tryz.func77, Tryz.ntmps77
    go_wp2_with (go_at_call 73; refine (HCB.out _).mono ?_; rintro e w1 ⟨rfl, rfl⟩; refine Hid.out ?_)
    refine Lib.hid ?_
    go_wp2
    refine bodyPost_ret (by simp [results, Tryz.results77, go_sem]; rfl) rfl ?_
    exact ⟨rfl, by go_grown⟩

set_option maxHeartbeats 1000000 in
theorem divide_other (fs fl : Nat) (s t a : ByteArray) (e0 : Nat) (w : World) (hs : s.size ≤ 9223372036854775807) (hne : t ≠ ⟨#[48]⟩)
    (HC : ∀ W : World, Below w.heap.size w W → Calls Tryz.prog 77 #[opV fs fl, .string s, .string t] W fun e w' => e = .returned (.tuple #[.string a, .int .i64 e0]) ∧ Below W.heap.size W w') :
    Calls Tryz.prog 88 #[opV fs fl, .string s, .string t] w fun e w' => e = .returned (.tuple #[.string a, .int .i64 e0]) ∧ Below w.heap.size w w' := by
  have hd : (t.toList == [48]) = false := by
    rw [beq_eq_false_iff_ne]
    intro h
    have h2 : bytes t = [48] := h ▸ (ByteArray.toList_eq t).symm
    exact hne (ByteArray.ext (Array.ext' h2))
  have KC := Lib.hid HC; clear HC hne
  unfold opV at *
  go_enter Tryz.func88, Tryz.ntmps88
  go_wp2_with (go_at_call 77; refine (KC.out _ (by go_grown)).mono ?_; rintro e w1 ⟨rfl, hb1⟩; refine Hid.out ?_)
  have hbF : Below w.heap.size w w1 := by refine Below.chain ?_ hb1; go_grown
  clear hb1
  refine Lib.hid ?_
  go_wp2
  refine bodyPost_ret (by simp [results, Tryz.results88, go_sem]; rfl) rfl ?_
  exact ⟨rfl, hbF⟩

set_option maxHeartbeats 1000000 in
theorem divide_zero (fs fl : Nat) (s : ByteArray) (w : World) (hs : s.size ≤ 9223372036854775807) (he : errOf (bytes s) = 0) :
    Calls Tryz.prog 88 #[opV fs fl, .string s, .string ⟨#[48]⟩] w fun e w' => e = .returned (errV 19) ∧ Below w.heap.size w w' := by
  have CC := fun W => check_any s W hs
  rw [he] at CC
  have KC := Lib.hid CC; clear CC he hs
  unfold opV errV at *
  go_enter Tryz.func88, Tryz.ntmps88
  go_wp2_with (go_at_call 24; refine (KC.out _).mono ?_; rintro e w1 ⟨rfl, rfl⟩; refine Hid.out ?_)
  refine Lib.hid ?_
  go_wp2
  refine bodyPost_ret (by simp [results, Tryz.results88, go_sem]; rfl) rfl ?_
  exact ⟨rfl, by go_grown⟩

set_option maxHeartbeats 1000000 in
theorem divide_zeroBad (fs fl : Nat) (s : ByteArray) (w : World) (hs : s.size ≤ 9223372036854775807) (he : errOf (bytes s) ≠ 0) :
    Calls Tryz.prog 88 #[opV fs fl, .string s, .string ⟨#[48]⟩] w fun e w' => e = .returned (errV (errOf (bytes s))) ∧ Below w.heap.size w w' := by
  have CC := fun W => check_any s W hs
  have HC : ∀ W : World, Calls Tryz.prog 77 #[opV fs fl, .string s, .string ⟨#[48]⟩] W fun e w' => e = .returned (errV (errOf (bytes s))) ∧ Below W.heap.size W w' := fun W => by
    have hb : errBoth (bytes s) (bytes ⟨#[48]⟩) = errOf (bytes s) := by unfold errBoth; rw [if_neg he]
    have := compute_err fs fl s ⟨#[48]⟩ W hs (by decide) (by rw [hb]; exact he)
    rwa [hb] at this
  rcases errOf_cases (bytes s) with h0 | h0 | h0
  · exact absurd h0 he
  all_goals
    rw [h0] at CC HC ⊢
    have KK := Lib.hid CC; have KC := Lib.hid HC
    clear CC HC he h0 hs
    unfold opV errV at *
    go_enter Tryz.func88, Tryz.ntmps88
    go_wp2_with (go_at_call 24; refine (KK.out _).mono ?_; rintro e w1 ⟨rfl, rfl⟩; refine Hid.out ?_)
    refine Lib.hid ?_
    go_wp2_with (go_at_call 77; refine (KC.out _).mono ?_; rintro e w1 ⟨rfl, hb1⟩; refine Hid.out ?_)
    have hbF : Below w.heap.size w w1 := by refine Below.chain ?_ hb1; go_grown
    clear hb1
    refine Lib.hid ?_
    go_wp2
    refine bodyPost_ret (by simp [results, Tryz.results88, go_sem]; rfl) rfl ?_
    exact ⟨rfl, hbF⟩

theorem fdiv_le (x y : Int) (hy : y ≠ 0) : (x.fdiv y).natAbs ≤ x.natAbs := by
  have hp : 0 < y.natAbs := by omega
  by_cases h : (x < 0) = (y < 0)
  · rw [fdiv_same x y hy h, Int.natAbs_natCast]
    exact Nat.div_le_self x.natAbs y.natAbs
  · rw [fdiv_opp x y hy h, Int.natAbs_neg, Int.natAbs_natCast]
    generalize x.natAbs = a at *
    generalize y.natAbs = b at *
    have : (a + b - 1) / b ≤ a := by
      clear h
      refine Nat.le_of_lt_succ ((Nat.div_lt_iff_lt_mul hp).2 ?_)
      rw [Nat.succ_mul]
      have := Nat.le_mul_of_pos_right a hp
      generalize a * b = q at *
      omega
    exact this
theorem missN_lt (x y : Nat) (hy : 0 < y) : missN x y < y := by
  unfold missN
  have := Nat.mod_lt x hy
  split <;> omega
theorem fmod_lt (x y : Int) (hy : y ≠ 0) : (x.fmod y).natAbs < y.natAbs := by
  have hp : 0 < y.natAbs := by omega
  have h1 := Nat.mod_lt x.natAbs hp
  have h2 := missN_lt x.natAbs y.natAbs hp
  by_cases hx : x < 0 <;> by_cases h : y < 0
  · rw [fmod_nn x y hx h]; omega
  · rw [fmod_np x y hy hx h]; omega
  · rw [fmod_pn x y hy hx h]; omega
  · rw [fmod_pp x y hx h]; omega

theorem compQuo (s t : ByteArray) (x y : Int) (w : World) (hs : Str s x) (ht : Str t y) (hy0 : y ≠ 0) (htab : Lib.TabIs Tryz.prog w "internal/strconv.uint64pow10" .u64 Lib.pow10Tab) :
    Calls Tryz.prog 77 #[opV 89 90, .string s, .string t] w fun e w' => e = .returned (resV (x.fdiv y)) ∧ Below w.heap.size w w' := by
  have hle := fdiv_le x y hy0
  by_cases h : x.natAbs < 1000000000 ∧ y.natAbs < 1000000000
  · have := compQuo_short s t x y (x.fdiv y) w hs ht h.1 h.2 (by omega) (by omega) (fun W => quoS x y W h.1 h.2 hy0) htab
    rwa [← resV_small (r := x.fdiv y) (by omega)] at this
  · exact compQuo_long s t x y (x.fdiv y) w hs ht h (Nat.le_trans (limbs_length_mono hle) (by have := hs.limbs; omega)) (fun W v1 v2 h1 h2 => quotientZ x y v1 v2 W h1 h2 (by have := hs.limbs; omega) (by have := ht.limbs; omega) hy0) htab

theorem compRem (s t : ByteArray) (x y : Int) (w : World) (hs : Str s x) (ht : Str t y) (hy0 : y ≠ 0) (htab : Lib.TabIs Tryz.prog w "internal/strconv.uint64pow10" .u64 Lib.pow10Tab) :
    Calls Tryz.prog 77 #[opV 92 93, .string s, .string t] w fun e w' => e = .returned (resV (x.fmod y)) ∧ Below w.heap.size w w' := by
  have hle := fmod_lt x y hy0
  by_cases h : x.natAbs < 1000000000 ∧ y.natAbs < 1000000000
  · have := compRem_short s t x y (x.fmod y) w hs ht h.1 h.2 (by omega) (by omega) (fun W => remS x y W h.1 h.2 hy0) htab
    rwa [← resV_small (r := x.fmod y) (by omega)] at this
  · exact compRem_long s t x y (x.fmod y) w hs ht h (Nat.le_trans (limbs_length_mono (Nat.le_of_lt hle)) (by have := ht.limbs; omega)) (fun W v1 v2 h1 h2 => remainderZ x y v1 v2 W h1 h2 (by have := hs.limbs; omega) (by have := ht.limbs; omega) hy0) htab

theorem Str.ne_zero {t : ByteArray} {y : Int} (h : Str t y) (hy : y ≠ 0) : t ≠ ⟨#[48]⟩ := by
  intro e
  subst e
  have h1 := h.text
  have h2 : bytes ⟨#[48]⟩ = Lib.itoa 0 := by rw [itoa_nonneg (by omega)]; exact dec0'.symm
  rw [h2] at h1
  exact hy (itoa_inj h1).symm

set_option maxHeartbeats 1000000 in
theorem quo_of (s t a : ByteArray) (e0 : Nat) (w : World)
    (C : Calls Tryz.prog 88 #[opV 89 90, .string s, .string t] w fun e w' => e = .returned (.tuple #[.string a, .int .i64 e0]) ∧ Below w.heap.size w w') :
    Calls Tryz.prog 40 #[.string s, .string t] w fun e w' => e = .returned (.tuple #[.string a, .int .i64 e0]) ∧ Below w.heap.size w w' := by
  unfold opV at C
  have HC := Lib.hid C; clear C
  go_enter Tryz.func40, Tryz.ntmps40
  go_wp2_with (go_at_call 88; refine HC.out.mono ?_; rintro e w2 ⟨rfl, hb2⟩; refine Hid.out ?_)
  refine Lib.hid ?_
  go_wp2
  refine bodyPost_ret (by simp [results, Tryz.results40, go_sem]; rfl) rfl ?_
  exact ⟨rfl, hb2⟩

theorem quoZ (s t : ByteArray) (x y : Int) (w : World) (hs : Str s x) (ht : Str t y) (hy0 : y ≠ 0) (htab : Lib.TabIs Tryz.prog w "internal/strconv.uint64pow10" .u64 Lib.pow10Tab) :
    Calls Tryz.prog 40 #[.string s, .string t] w fun e w' => e = .returned (resV (x.fdiv y)) ∧ Below w.heap.size w w' := by
  have C : ∀ W : World, Below w.heap.size w W → Calls Tryz.prog 77 #[opV 89 90, .string s, .string t] W fun e w' => e = .returned (resV (x.fdiv y)) ∧ Below W.heap.size W w' := fun W hW => compQuo s t x y W hs ht hy0 ((Lib.tabBelow_of_tabIs htab).on hW).here
  obtain ⟨a, e0, hr⟩ := resV_parts (x.fdiv y)
  rw [hr] at C ⊢
  have := hs.size
  exact quo_of s t a e0 w (divide_other _ _ s t a e0 w (by omega) (ht.ne_zero hy0) C)

theorem quo_zero (s : ByteArray) (w : World) (hs : s.size ≤ 9223372036854775807) (he : errOf (bytes s) = 0) :
    Calls Tryz.prog 40 #[.string s, .string ⟨#[48]⟩] w fun e w' => e = .returned (errV 19) ∧ Below w.heap.size w w' := quo_of s _ _ 19 w (divide_zero _ _ s w hs he)

theorem quo_err (s t : ByteArray) (w : World) (hs : s.size ≤ 9223372036854775807) (ht : t.size ≤ 9223372036854775807) (h : errBoth (bytes s) (bytes t) ≠ 0) :
    Calls Tryz.prog 40 #[.string s, .string t] w fun e w' => e = .returned (errV (errBoth (bytes s) (bytes t))) ∧ Below w.heap.size w w' := by
  by_cases hz : t = ⟨#[48]⟩
  · subst hz
    have h1 : errOf (bytes ⟨#[48]⟩) = 0 := by decide
    have hb : errBoth (bytes s) (bytes ⟨#[48]⟩) = errOf (bytes s) := by
      unfold errBoth
      split
      · next h0 => rw [h0, h1]
      · rfl
    rw [hb] at h ⊢
    exact quo_of s _ _ _ w (divide_zeroBad _ _ s w hs h)
  · exact quo_of s t _ _ w (divide_other _ _ s t _ _ w hs hz fun W hW => compute_err _ _ s t W hs ht h)

set_option maxHeartbeats 1000000 in
theorem rem_of (s t a : ByteArray) (e0 : Nat) (w : World)
    (C : Calls Tryz.prog 88 #[opV 92 93, .string s, .string t] w fun e w' => e = .returned (.tuple #[.string a, .int .i64 e0]) ∧ Below w.heap.size w w') :
    Calls Tryz.prog 42 #[.string s, .string t] w fun e w' => e = .returned (.tuple #[.string a, .int .i64 e0]) ∧ Below w.heap.size w w' := by
  unfold opV at C
  have HC := Lib.hid C; clear C
  go_enter Tryz.func42, Tryz.ntmps42
  go_wp2_with (go_at_call 88; refine HC.out.mono ?_; rintro e w2 ⟨rfl, hb2⟩; refine Hid.out ?_)
  refine Lib.hid ?_
  go_wp2
  refine bodyPost_ret (by simp [results, Tryz.results42, go_sem]; rfl) rfl ?_
  exact ⟨rfl, hb2⟩

theorem remZ (s t : ByteArray) (x y : Int) (w : World) (hs : Str s x) (ht : Str t y) (hy0 : y ≠ 0) (htab : Lib.TabIs Tryz.prog w "internal/strconv.uint64pow10" .u64 Lib.pow10Tab) :
    Calls Tryz.prog 42 #[.string s, .string t] w fun e w' => e = .returned (resV (x.fmod y)) ∧ Below w.heap.size w w' := by
  have C : ∀ W : World, Below w.heap.size w W → Calls Tryz.prog 77 #[opV 92 93, .string s, .string t] W fun e w' => e = .returned (resV (x.fmod y)) ∧ Below W.heap.size W w' := fun W hW => compRem s t x y W hs ht hy0 ((Lib.tabBelow_of_tabIs htab).on hW).here
  obtain ⟨a, e0, hr⟩ := resV_parts (x.fmod y)
  rw [hr] at C ⊢
  have := hs.size
  exact rem_of s t a e0 w (divide_other _ _ s t a e0 w (by omega) (ht.ne_zero hy0) C)

theorem rem_zero (s : ByteArray) (w : World) (hs : s.size ≤ 9223372036854775807) (he : errOf (bytes s) = 0) :
    Calls Tryz.prog 42 #[.string s, .string ⟨#[48]⟩] w fun e w' => e = .returned (errV 19) ∧ Below w.heap.size w w' := rem_of s _ _ 19 w (divide_zero _ _ s w hs he)

theorem rem_err (s t : ByteArray) (w : World) (hs : s.size ≤ 9223372036854775807) (ht : t.size ≤ 9223372036854775807) (h : errBoth (bytes s) (bytes t) ≠ 0) :
    Calls Tryz.prog 42 #[.string s, .string t] w fun e w' => e = .returned (errV (errBoth (bytes s) (bytes t))) ∧ Below w.heap.size w w' := by
  by_cases hz : t = ⟨#[48]⟩
  · subst hz
    have h1 : errOf (bytes ⟨#[48]⟩) = 0 := by decide
    have hb : errBoth (bytes s) (bytes ⟨#[48]⟩) = errOf (bytes s) := by
      unfold errBoth
      split
      · next h0 => rw [h0, h1]
      · rfl
    rw [hb] at h ⊢
    exact rem_of s _ _ _ w (divide_zeroBad _ _ s w hs h)
  · exact rem_of s t _ _ w (divide_other _ _ s t _ _ w hs hz fun W hW => compute_err _ _ s t W hs ht h)

end Go.Proofs.YtipnnmbjkpidoaaGreatDoor
