import Derived.Test.YtipnnmbjkpidoaaGreatDoorBase17
import Derived.Test.YtipnnmbjkpidoaaGreatDoorBase3
import Derived.Test.YtipnnmbjkpidoaaGreatDoorBase5

set_option linter.unusedVariables false
/-
  bigint: compute with errors, divide, Quo, Rem.
-/
namespace Go.Proofs.YtipnnmbjkpidoaaGreatDoor
open Go Go.Proofs Go.RowKit

/-- What an operation returns with an error. -/
def errV (e : Nat) : Value := .tuple #[.string ⟨#[]⟩, .int .i64 (e : Nat)]

set_option maxHeartbeats 1000000 in
theorem compute_err (fs fl : Nat) (s t : ByteArray) (w : World) (hs : s.size ≤ 9223372036854775807) (ht : t.size ≤ 9223372036854775807) (h : errBoth (bytes s) (bytes t) ≠ 0) :
    Calls Tryz.prog 77 #[opV fs fl, .string s, .string t] w fun e w' => e = .returned (errV (errBoth (bytes s) (bytes t))) ∧ Below w.heap.size w w' := by
  have CB := fun W => checkBoth_any s t W hs ht
  rcases errBoth_cases (bytes s) (bytes t) with h0 | h0 | h0
  · exact absurd h0 h
  all_goals
    rw [h0] at CB ⊢
    have HCB := Lib.hid CB
    clear CB h h0 hs ht
    unfold opV errV
    go_enter Tryz.func77, Tryz.ntmps77
    go_wp2_with (go_at_call 73; refine (HCB.out _).mono ?_; rintro e w1 ⟨rfl, rfl⟩; refine Hid.out ?_)
    refine Lib.hid ?_
    go_wp2
    refine bodyPost_ret (by simp [results, Tryz.results77, go_sem]; rfl) rfl ?_
    exact ⟨rfl, by go_grown⟩

set_option maxHeartbeats 1000000 in
theorem divide_other (fs fl : Nat) (s t a : ByteArray) (e0 : Nat) (w : World) (hs : s.size ≤ 9223372036854775807) (hne : t ≠ ⟨#[48]⟩)
    (HC : ∀ W : World, Below w.heap.size w W → Calls Tryz.prog 77 #[opV fs fl, .string s, .string t] W fun e w' => e = .returned (.tuple #[.string a, .int .i64 e0]) ∧ Below W.heap.size W w') :
    Calls Tryz.prog 88 #[opV fs fl, .string s, .string t] w fun e w' => e = .returned (.tuple #[.string a, .int .i64 e0]) ∧ Below w.heap.size w w' := by
  have hd : (t.toList == [48]) = false := by
    rw [beq_eq_false_iff_ne]
    intro h
    have h2 : bytes t = [48] := h ▸ (ByteArray.toList_eq t).symm
    exact hne (ByteArray.ext (Array.ext' h2))
  have KC := Lib.hid HC; clear HC hne
  unfold opV at *
  go_enter Tryz.func88, Tryz.ntmps88
  go_wp2_with (go_at_call 77; refine (KC.out _ (by go_grown)).mono ?_; rintro e w1 ⟨rfl, hb1⟩; refine Hid.out ?_)
  have hbF : Below w.heap.size w w1 := by refine Below.chain ?_ hb1; go_grown
  clear hb1
  refine Lib.hid ?_
  go_wp2
  refine bodyPost_ret (by simp [results, Tryz.results88, go_sem]; rfl) rfl ?_
  exact ⟨rfl, hbF⟩

set_option maxHeartbeats 1000000 in
theorem divide_zero (fs fl : Nat) (s : ByteArray) (w : World) (hs : s.size ≤ 9223372036854775807) (he : errOf (bytes s) = 0) :
    Calls Tryz.prog 88 #[opV fs fl, .string s, .string ⟨#[48]⟩] w fun e w' => e = .returned (errV 19) ∧ Below w.heap.size w w' := by
  have CC := fun W => check_any s W hs
  rw [he] at CC
  have KC := Lib.hid CC; clear CC he hs
  unfold opV errV at *
  go_enter Tryz.func88, Tryz.ntmps88
  go_wp2_with (go_at_call 24; refine (KC.out _).mono ?_; rintro e w1 ⟨rfl, rfl⟩; refine Hid.out ?_)
  refine Lib.hid ?_
  go_wp2
  refine bodyPost_ret (by simp [results, Tryz.results88, go_sem]; rfl) rfl ?_
  exact ⟨rfl, by go_grown⟩

set_option maxHeartbeats 1000000 in
theorem divide_zeroBad (fs fl : Nat) (s : ByteArray) (w : World) (hs : s.size ≤ 9223372036854775807) (he : errOf (bytes s) ≠ 0) :
    Calls Tryz.prog 88 #[opV fs fl, .string s, .string ⟨#[48]⟩] w fun e w' => e = .returned (errV (errOf (bytes s))) ∧ Below w.heap.size w w' := by
  have CC := fun W => check_any s W hs
  have HC : ∀ W : World, Calls Tryz.prog 77 #[opV fs fl, .string s, .string ⟨#[48]⟩] W fun e w' => e = .returned (errV (errOf (bytes s))) ∧ Below W.heap.size W w' := fun W => by
    have hb : errBoth (bytes s) (bytes ⟨#[48]⟩) = errOf (bytes s) := by unfold errBoth; rw [if_neg he]
    have := compute_err fs fl s ⟨#[48]⟩ W hs (by decide) (by rw [hb]; exact he)
    rwa [hb] at this
  rcases errOf_cases (bytes s) with h0 | h0 | h0
  · exact absurd h0 he
  all_goals
    rw [h0] at CC HC ⊢
    have KK := Lib.hid CC; have KC := Lib.hid HC
    clear CC HC he h0 hs
    unfold opV errV at *
    go_enter Tryz.func88, Tryz.ntmps88
    go_wp2_with (go_at_call 24; refine (KK.out _).mono ?_; rintro e w1 ⟨rfl, rfl⟩; refine Hid.out ?_)
    refine Lib.hid ?_
    go_wp2_with (go_at_call 77; refine (KC.out _).mono ?_; rintro e w1 ⟨rfl, hb1⟩; refine Hid.out ?_)
    have hbF : Below w.heap.size w w1 := by refine Below.chain ?_ hb1; go_grown
    clear hb1
    refine Lib.hid ?_
    go_wp2
    refine bodyPost_ret (by simp [results, Tryz.results88, go_sem]; rfl) rfl ?_
    exact ⟨rfl, hbF⟩

theorem fdiv_le (x y : Int) (hy : y ≠ 0) : (x.fdiv y).natAbs ≤ x.natAbs := by
  have hp : 0 < y.natAbs := by omega
  by_cases h : (x < 0) = (y < 0)
  · rw [fdiv_same x y hy h, Int.natAbs_natCast]
    exact Nat.div_le_self x.natAbs y.natAbs
  · rw [fdiv_opp x y hy h, Int.natAbs_neg, Int.natAbs_natCast]
    generalize x.natAbs = a at *
    generalize y.natAbs = b at *
    have : (a + b - 1) / b ≤ a := by
      clear h
      refine Nat.le_of_lt_succ ((Nat.div_lt_iff_lt_mul hp).2 ?_)
      rw [Nat.succ_mul]
      have := Nat.le_mul_of_pos_right a hp
      generalize a * b = q at *
      omega
    exact this
theorem missN_lt (x y : Nat) (hy : 0 < y) : missN x y < y := by
  unfold missN
  have := Nat.mod_lt x hy
  split <;> omega
theorem fmod_lt (x y : Int) (hy : y ≠ 0) : (x.fmod y).natAbs < y.natAbs := by
  have hp : 0 < y.natAbs := by omega
  have h1 := Nat.mod_lt x.natAbs hp
  have h2 := missN_lt x.natAbs y.natAbs hp
  by_cases hx : x < 0 <;> by_cases h : y < 0
  · rw [fmod_nn x y hx h]; omega
  · rw [fmod_np x y hy hx h]; omega
  · rw [fmod_pn x y hy hx h]; omega
  · rw [fmod_pp x y hx h]; omega

theorem compQuo (s t : ByteArray) (x y : Int) (w : World) (hs : Str s x) (ht : Str t y) (hy0 : y ≠ 0) (htab : Lib.TabIs Tryz.prog w "internal/strconv.uint64pow10" .u64 Lib.pow10Tab) :
    Calls Tryz.prog 77 #[opV 89 90, .string s, .string t] w fun e w' => e = .returned (resV (x.fdiv y)) ∧ Below w.heap.size w w' := by
  have hle := fdiv_le x y hy0
  by_cases h : x.natAbs < 1000000000 ∧ y.natAbs < 1000000000
  · have := compQuo_short s t x y (x.fdiv y) w hs ht h.1 h.2 (by omega) (by omega) (fun W => quoS x y W h.1 h.2 hy0) htab
    rwa [← resV_small (r := x.fdiv y) (by omega)] at this
  · exact compQuo_long s t x y (x.fdiv y) w hs ht h (Nat.le_trans (limbs_length_mono hle) (by have := hs.limbs; omega)) (fun W v1 v2 h1 h2 => quotientZ x y v1 v2 W h1 h2 (by have := hs.limbs; omega) (by have := ht.limbs; omega) hy0) htab

theorem compRem (s t : ByteArray) (x y : Int) (w : World) (hs : Str s x) (ht : Str t y) (hy0 : y ≠ 0) (htab : Lib.TabIs Tryz.prog w "internal/strconv.uint64pow10" .u64 Lib.pow10Tab) :
    Calls Tryz.prog 77 #[opV 92 93, .string s, .string t] w fun e w' => e = .returned (resV (x.fmod y)) ∧ Below w.heap.size w w' := by
  have hle := fmod_lt x y hy0
  by_cases h : x.natAbs < 1000000000 ∧ y.natAbs < 1000000000
  · have := compRem_short s t x y (x.fmod y) w hs ht h.1 h.2 (by omega) (by omega) (fun W => remS x y W h.1 h.2 hy0) htab
    rwa [← resV_small (r := x.fmod y) (by omega)] at this
  · exact compRem_long s t x y (x.fmod y) w hs ht h (Nat.le_trans (limbs_length_mono (Nat.le_of_lt hle)) (by have := ht.limbs; omega)) (fun W v1 v2 h1 h2 => remainderZ x y v1 v2 W h1 h2 (by have := hs.limbs; omega) (by have := ht.limbs; omega) hy0) htab

theorem Str.ne_zero {t : ByteArray} {y : Int} (h : Str t y) (hy : y ≠ 0) : t ≠ ⟨#[48]⟩ := by
  intro e
  subst e
  have h1 := h.text
  have h2 : bytes ⟨#[48]⟩ = Lib.itoa 0 := by rw [itoa_nonneg (by omega)]; exact dec0'.symm
  rw [h2] at h1
  exact hy (itoa_inj h1).symm

set_option maxHeartbeats 1000000 in
theorem quo_of (s t a : ByteArray) (e0 : Nat) (w : World)
    (C : Calls Tryz.prog 88 #[opV 89 90, .string s, .string t] w fun e w' => e = .returned (.tuple #[.string a, .int .i64 e0]) ∧ Below w.heap.size w w') :
    Calls Tryz.prog 40 #[.string s, .string t] w fun e w' => e = .returned (.tuple #[.string a, .int .i64 e0]) ∧ Below w.heap.size w w' := by
  unfold opV at C
  have HC := Lib.hid C; clear C
  go_enter Tryz.func40, Tryz.ntmps40
  go_wp2_with (go_at_call 88; refine HC.out.mono ?_; rintro e w2 ⟨rfl, hb2⟩; refine Hid.out ?_)
  refine Lib.hid ?_
  go_wp2
  refine bodyPost_ret (by simp [results, Tryz.results40, go_sem]; rfl) rfl ?_
  exact ⟨rfl, hb2⟩

theorem quoZ (s t : ByteArray) (x y : Int) (w : World) (hs : Str s x) (ht : Str t y) (hy0 : y ≠ 0) (htab : Lib.TabIs Tryz.prog w "internal/strconv.uint64pow10" .u64 Lib.pow10Tab) :
    Calls Tryz.prog 40 #[.string s, .string t] w fun e w' => e = .returned (resV (x.fdiv y)) ∧ Below w.heap.size w w' := by
  have C : ∀ W : World, Below w.heap.size w W → Calls Tryz.prog 77 #[opV 89 90, .string s, .string t] W fun e w' => e = .returned (resV (x.fdiv y)) ∧ Below W.heap.size W w' := fun W hW => compQuo s t x y W hs ht hy0 ((Lib.tabBelow_of_tabIs htab).on hW).here
  obtain ⟨a, e0, hr⟩ := resV_parts (x.fdiv y)
  rw [hr] at C ⊢
  have := hs.size
  exact quo_of s t a e0 w (divide_other _ _ s t a e0 w (by omega) (ht.ne_zero hy0) C)

theorem quo_zero (s : ByteArray) (w : World) (hs : s.size ≤ 9223372036854775807) (he : errOf (bytes s) = 0) :
    Calls Tryz.prog 40 #[.string s, .string ⟨#[48]⟩] w fun e w' => e = .returned (errV 19) ∧ Below w.heap.size w w' := quo_of s _ _ 19 w (divide_zero _ _ s w hs he)

theorem quo_err (s t : ByteArray) (w : World) (hs : s.size ≤ 9223372036854775807) (ht : t.size ≤ 9223372036854775807) (h : errBoth (bytes s) (bytes t) ≠ 0) :
    Calls Tryz.prog 40 #[.string s, .string t] w fun e w' => e = .returned (errV (errBoth (bytes s) (bytes t))) ∧ Below w.heap.size w w' := by
  by_cases hz : t = ⟨#[48]⟩
  · subst hz
    have h1 : errOf (bytes ⟨#[48]⟩) = 0 := by decide
    have hb : errBoth (bytes s) (bytes ⟨#[48]⟩) = errOf (bytes s) := by
      unfold errBoth
      split
      · next h0 => rw [h0, h1]
      · rfl
    rw [hb] at h ⊢
    exact quo_of s _ _ _ w (divide_zeroBad _ _ s w hs h)
  · exact quo_of s t _ _ w (divide_other _ _ s t _ _ w hs hz fun W hW => compute_err _ _ s t W hs ht h)

set_option maxHeartbeats 1000000 in
theorem rem_of (s t a : ByteArray) (e0 : Nat) (w : World)
    (C : Calls Tryz.prog 88 #[opV 92 93, .string s, .string t] w fun e w' => e = .returned (.tuple #[.string a, .int .i64 e0]) ∧ Below w.heap.size w w') :
    Calls Tryz.prog 42 #[.string s, .string t] w fun e w' => e = .returned (.tuple #[.string a, .int .i64 e0]) ∧ Below w.heap.size w w' := by
  unfold opV at C
  have HC := Lib.hid C; clear C
  go_enter Tryz.func42, Tryz.ntmps42
  go_wp2_with (go_at_call 88; refine HC.out.mono ?_; rintro e w2 ⟨rfl, hb2⟩; refine Hid.out ?_)
  refine Lib.hid ?_
  go_wp2
  refine bodyPost_ret (by simp [results, Tryz.results42, go_sem]; rfl) rfl ?_
  exact ⟨rfl, hb2⟩

theorem remZ (s t : ByteArray) (x y : Int) (w : World) (hs : Str s x) (ht : Str t y) (hy0 : y ≠ 0) (htab : Lib.TabIs Tryz.prog w "internal/strconv.uint64pow10" .u64 Lib.pow10Tab) :
    Calls Tryz.prog 42 #[.string s, .string t] w fun e w' => e = .returned (resV (x.fmod y)) ∧ Below w.heap.size w w' := by
  have C : ∀ W : World, Below w.heap.size w W → Calls Tryz.prog 77 #[opV 92 93, .string s, .string t] W fun e w' => e = .returned (resV (x.fmod y)) ∧ Below W.heap.size W w' := fun W hW => compRem s t x y W hs ht hy0 ((Lib.tabBelow_of_tabIs htab).on hW).here
  obtain ⟨a, e0, hr⟩ := resV_parts (x.fmod y)
  rw [hr] at C ⊢
  have := hs.size
  exact rem_of s t a e0 w (divide_other _ _ s t a e0 w (by omega) (ht.ne_zero hy0) C)

theorem rem_zero (s : ByteArray) (w : World) (hs : s.size ≤ 9223372036854775807) (he : errOf (bytes s) = 0) :
    Calls Tryz.prog 42 #[.string s, .string ⟨#[48]⟩] w fun e w' => e = .returned (errV 19) ∧ Below w.heap.size w w' := rem_of s _ _ 19 w (divide_zero _ _ s w hs he)

theorem rem_err (s t : ByteArray) (w : World) (hs : s.size ≤ 9223372036854775807) (ht : t.size ≤ 9223372036854775807) (h : errBoth (bytes s) (bytes t) ≠ 0) :
    Calls Tryz.prog 42 #[.string s, .string t] w fun e w' => e = .returned (errV (errBoth (bytes s) (bytes t))) ∧ Below w.heap.size w w' := by
  by_cases hz : t = ⟨#[48]⟩
  · subst hz
    have h1 : errOf (bytes ⟨#[48]⟩) = 0 := by decide
    have hb : errBoth (bytes s) (bytes ⟨#[48]⟩) = errOf (bytes s) := by
      unfold errBoth
      split
      · next h0 => rw [h0, h1]
      · rfl
    rw [hb] at h ⊢
    exact rem_of s _ _ _ w (divide_zeroBad _ _ s w hs h)
  · exact rem_of s t _ _ w (divide_other _ _ s t _ _ w hs hz fun W hW => compute_err _ _ s t W hs ht h)

end Go.Proofs.YtipnnmbjkpidoaaGreatDoor

/-
  bigint: Abs, Neg, Sign, Min, Max, Of.
-/
namespace Go.Proofs.YtipnnmbjkpidoaaGreatDoor
open Go Go.Proofs Go.RowKit

theorem eq48 (s : ByteArray) (h : s ≠ ⟨#[48]⟩) : (s.toList == [48]) = false := by
  rw [beq_eq_false_iff_ne]
  intro h1
  have h2 : bytes s = [48] := h1 ▸ (ByteArray.toList_eq s).symm
  exact h (ByteArray.ext (Array.ext' h2))

theorem abs_any (s : ByteArray) (w : World) (hs : s.size ≤ 9223372036854775807) :
    Calls Tryz.prog 21 #[.string s] w fun e w' => e = .returned (if errOf (bytes s) = 0 then .tuple #[.string (str (digL (bytes s))), .int .i64 0] else errV (errOf (bytes s))) ∧ w' = w := by
  have C1 := fun W => check_any s W hs
  have C2 := fun W => digits_any s W
  have hc := errOf_cases (bytes s)
  unfold errV
  generalize errOf (bytes s) = c at *
  generalize str (digL (bytes s)) = r at *
  have K1 := Lib.hid C1; have K2 := Lib.hid C2; clear C1 C2 hs
  rcases hc with rfl | rfl | rfl
  · go_enter Tryz.func21, Tryz.ntmps21
    go_wp2_with (go_at_call 24; refine (K1.out _).mono ?_; rintro e w1 ⟨rfl, rfl⟩; refine Hid.out ?_)
    refine Lib.hid ?_
    go_wp2_with (go_at_call 65; refine (K2.out _).mono ?_; rintro e w1 ⟨rfl, rfl⟩; refine Hid.out ?_)
    refine Lib.hid ?_
    go_wp2
    refine bodyPost_ret (by simp [results, Tryz.results21, go_sem]; rfl) rfl ?_
    exact ⟨rfl, rfl⟩
  all_goals
    go_enter Tryz.func21, Tryz.ntmps21
    go_wp2_with (go_at_call 24; refine (K1.out _).mono ?_; rintro e w1 ⟨rfl, rfl⟩; refine Hid.out ?_)
    refine Lib.hid ?_
    go_wp2
    refine bodyPost_ret (by simp [results, Tryz.results21, go_sem]; rfl) rfl ?_
    exact ⟨rfl, rfl⟩

def negL (l : List UInt8) : List UInt8 := if l = [48] then l else if negB l = true then digL l else 45 :: l

theorem neg_any (s : ByteArray) (w : World) (hs : s.size ≤ 1000000000000) :
    Calls Tryz.prog 20 #[.string s] w fun e w' => e = .returned (if errOf (bytes s) = 0 then .tuple #[.string (str (negL (bytes s))), .int .i64 0] else errV (errOf (bytes s))) ∧ w' = w := by
  have C1 := fun W => check_any s W (by omega)
  have C2 := fun W => digits_any s W
  have C3 := fun W => isNegative_any s W
  have hc := errOf_cases (bytes s)
  unfold errV
  generalize errOf (bytes s) = c at *
  have K1 := Lib.hid C1; have K2 := Lib.hid C2; have K3 := Lib.hid C3; clear C1 C2 C3
  rcases hc with rfl | rfl | rfl
  · by_cases hz : s = ⟨#[48]⟩
    · subst hz
      go_enter Tryz.func20, Tryz.ntmps20
      go_wp2_with (go_at_call 24; refine (K1.out _).mono ?_; rintro e w1 ⟨rfl, rfl⟩; refine Hid.out ?_)
      refine Lib.hid ?_
      go_wp2
      refine bodyPost_ret (by simp [results, Tryz.results20, go_sem]; rfl) rfl ?_
      exact ⟨rfl, rfl⟩
    · have hd := eq48 s hz
      have hne : bytes s ≠ [48] := fun h => hz (ByteArray.ext (Array.ext' h))
      have HN := Lib.hid hne; clear hz hne
      cases hn : negB (bytes s)
      · have e1 : str (negL (bytes s)) = ⟨#[45]⟩ ++ s := by
          unfold negL
          rw [if_neg HN.out, if_neg (by simp [hn])]
          apply ByteArray.ext
          apply Array.ext'
          simp [str, bytes]
        rw [e1]
        rw [hn] at K3
        clear e1 hn
        go_enter Tryz.func20, Tryz.ntmps20
        go_wp2_with (go_at_call 24; refine (K1.out _).mono ?_; rintro e w1 ⟨rfl, rfl⟩; refine Hid.out ?_)
        refine Lib.hid ?_
        go_wp2_with (go_at_call 64; refine (K3.out _).mono ?_; rintro e w1 ⟨rfl, rfl⟩; refine Hid.out ?_)
        refine Lib.hid ?_
        go_wp2
        refine bodyPost_ret (by simp [results, Tryz.results20, go_sem]; rfl) rfl ?_
        exact ⟨rfl, rfl⟩
      · have e1 : str (negL (bytes s)) = str (digL (bytes s)) := by
          unfold negL
          rw [if_neg HN.out, if_pos hn]
        rw [e1]
        rw [hn] at K3
        clear e1 hn
        generalize str (digL (bytes s)) = r at *
        go_enter Tryz.func20, Tryz.ntmps20
        go_wp2_with (go_at_call 24; refine (K1.out _).mono ?_; rintro e w1 ⟨rfl, rfl⟩; refine Hid.out ?_)
        refine Lib.hid ?_
        go_wp2_with (go_at_call 64; refine (K3.out _).mono ?_; rintro e w1 ⟨rfl, rfl⟩; refine Hid.out ?_)
        refine Lib.hid ?_
        go_wp2_with (go_at_call 65; refine (K2.out _).mono ?_; rintro e w1 ⟨rfl, rfl⟩; refine Hid.out ?_)
        refine Lib.hid ?_
        go_wp2
        refine bodyPost_ret (by simp [results, Tryz.results20, go_sem]; rfl) rfl ?_
        exact ⟨rfl, rfl⟩
  all_goals
    go_enter Tryz.func20, Tryz.ntmps20
    go_wp2_with (go_at_call 24; refine (K1.out _).mono ?_; rintro e w1 ⟨rfl, rfl⟩; refine Hid.out ?_)
    refine Lib.hid ?_
    go_wp2
    refine bodyPost_ret (by simp [results, Tryz.results20, go_sem]; rfl) rfl ?_
    exact ⟨rfl, rfl⟩

theorem absZ (s : ByteArray) (x : Int) (w : World) (hs : Str s x) :
    Calls Tryz.prog 21 #[.string s] w fun e w' => e = .returned (.tuple #[.string (str (Lib.itoa (x.natAbs : Int))), .int .i64 0]) ∧ w' = w := by
  have := abs_any s w (by have := hs.size; omega)
  rw [hs.err, if_pos rfl, hs.text, digL_itoa] at this
  rwa [itoa_nonneg (by omega), Int.natAbs_natCast]
theorem negL_itoa (x : Int) : negL (Lib.itoa x) = Lib.itoa (-x) := by
  unfold negL
  by_cases h0 : x = 0
  · subst h0
    rw [if_pos (by rw [itoa_nonneg (by omega)]; exact dec0')]; rfl
  · have hne : ¬ Lib.itoa x = [48] := by
      have h2 : Lib.itoa 0 = [48] := by rw [itoa_nonneg (by omega)]; exact dec0'
      rw [← h2]
      exact fun h => h0 (itoa_inj h)
    rw [if_neg hne, negB_itoa, digL_itoa]
    by_cases hx : x < 0
    · rw [decide_eq_true hx, if_pos rfl, itoa_nonneg (by omega), Int.natAbs_neg]
    · rw [decide_eq_false hx, if_neg (by simp), itoa_nonneg hx, itoa_neg (by omega), Int.natAbs_neg]
theorem negZ (s : ByteArray) (x : Int) (w : World) (hs : Str s x) :
    Calls Tryz.prog 20 #[.string s] w fun e w' => e = .returned (.tuple #[.string (str (Lib.itoa (-x))), .int .i64 0]) ∧ w' = w := by
  have := neg_any s w (by have := hs.size; omega)
  rwa [hs.err, if_pos rfl, hs.text, negL_itoa] at this

theorem cmpR_parts (a b : List UInt8) : ∃ (r : Int) (e : Nat), cmpR a b = .tuple #[.int .i64 r, .int .i64 e] ∧ r = (if errBoth a b = 0 then ordZ a b else 0) ∧ e = errBoth a b := ⟨_, _, rfl, rfl, rfl⟩

theorem sign_any (s : ByteArray) (w : World) (hs : s.size ≤ 9223372036854775807) :
    Calls Tryz.prog 19 #[.string s] w fun e w' => e = .returned (cmpR (bytes s) [48]) ∧ w' = w := by
  have C := fun W => compareZ_any s ⟨#[48]⟩ W hs (by decide)
  rw [show bytes ⟨#[48]⟩ = [48] from rfl] at C
  obtain ⟨r, e0, h, -, -⟩ := cmpR_parts (bytes s) [48]
  rw [h] at C ⊢
  have KC := Lib.hid C; clear C h hs
  go_enter Tryz.func19, Tryz.ntmps19
  go_wp2_with (go_at_call 30; refine (KC.out _).mono ?_; rintro e w1 ⟨rfl, rfl⟩; refine Hid.out ?_)
  refine Lib.hid ?_
  go_wp2
  refine bodyPost_ret (by simp [results, Tryz.results19, go_sem]; rfl) rfl ?_
  exact ⟨rfl, rfl⟩

theorem ordZ_str {s t : ByteArray} {x y : Int} (hs : Str s x) (ht : Str t y) : ordZ (bytes s) (bytes t) = cmpI x y := by
  rw [hs.text, ht.text]; exact ordZ_itoa x y
theorem compareS (s t : ByteArray) (x y : Int) (w : World) (hs : Str s x) (ht : Str t y) :
    Calls Tryz.prog 30 #[.string s, .string t] w fun e w' => e = .returned (.tuple #[.int .i64 (cmpI x y), .int .i64 0]) ∧ w' = w := by
  have h1 := hs.size; have h2 := ht.size
  have := compareZ_any s t w (by omega) (by omega)
  unfold cmpR at this
  have hb : errBoth (bytes s) (bytes t) = 0 := by unfold errBoth; rw [if_pos hs.err, ht.err]
  rwa [hb, if_pos rfl, ordZ_str hs ht] at this
theorem str_zero : Str ⟨#[48]⟩ 0 := ⟨by rw [itoa_nonneg (by omega)]; exact dec0'.symm, by rw [show ((0 : Int).natAbs) = 0 from rfl, dec0']; decide⟩
theorem signS (s : ByteArray) (x : Int) (w : World) (hs : Str s x) :
    Calls Tryz.prog 19 #[.string s] w fun e w' => e = .returned (.tuple #[.int .i64 (cmpI x 0), .int .i64 0]) ∧ w' = w := by
  have h1 := hs.size
  have := sign_any s w (by omega)
  unfold cmpR at this
  have hb : errBoth (bytes s) [48] = 0 := by unfold errBoth; rw [if_pos hs.err]; rfl
  rw [hb, if_pos rfl] at this
  have e : ordZ (bytes s) [48] = cmpI x 0 := ordZ_str hs str_zero
  rwa [e] at this

theorem of_any' (n : Int) (h0 : -9223372036854775808 ≤ n) (h1 : n ≤ 9223372036854775807) (w : World) (htab : Lib.TabIs Tryz.prog w "internal/strconv.uint64pow10" .u64 Lib.pow10Tab) :
    Calls Tryz.prog 25 #[.int .i64 n] w fun e w' => e = .returned (.string (str (Lib.itoa n))) ∧ Below w.heap.size w w' := by
  have C : Calls Tryz.prog 67 #[.int .i64 n] w fun e w' => e = .returned (.string (str (Lib.itoa n))) ∧ Below w.heap.size w w' :=
    (Tryz.strconv_Itoa n h0 h1 w htab).mono fun e w' ⟨h1, k, os, h2⟩ => ⟨h1, by rw [h2]; exact Lib.below_grow _ w (Nat.le_refl _) k os⟩
  have KC := Lib.hid C; clear C htab
  generalize str (Lib.itoa n) = r at *
  go_enter Tryz.func25, Tryz.ntmps25
  go_wp2_with (go_at_call 67; refine KC.out.mono ?_; rintro e w1 ⟨rfl, hb1⟩; refine Hid.out ?_)
  refine Lib.hid ?_
  go_wp2
  go_ret
  exact ⟨rfl, hb1⟩
end Go.Proofs.YtipnnmbjkpidoaaGreatDoor

/-
  bigint.compute of Gcd, for short integers. (made by tools/comp.py)
-/
namespace Go.Proofs.YtipnnmbjkpidoaaGreatDoor
open Go Go.Proofs Go.RowKit Go.Sort

set_option maxHeartbeats 4000000 in
theorem compGcd_short (s t : ByteArray) (x y r : Int) (w : World) (hs : Str s x) (ht : Str t y) (hx : x.natAbs < 1000000000) (hy : y.natAbs < 1000000000) (hr0 : -9223372036854775808 ≤ r) (hr1 : r ≤ 9223372036854775807)
    (HS : ∀ W : World, Calls Tryz.prog 95 #[.int .i64 x, .int .i64 y] W fun e w' => e = .returned (.int .i64 r) ∧ Below W.heap.size W w')
    (htab : Lib.TabIs Tryz.prog w "internal/strconv.uint64pow10" .u64 Lib.pow10Tab) :
    Calls Tryz.prog 77 #[opV 95 96, .string s, .string t] w fun e w' => e = .returned (.tuple #[.string (str (Lib.itoa r)), .int .i64 0]) ∧ Below w.heap.size w w' := by
  have hsz := hs.size
  have htz := ht.size
  have CB := fun W => checkBoth_any s t W (by omega) (by omega)
  have hb : errBoth (bytes s) (bytes t) = 0 := by unfold errBoth; rw [if_pos hs.err, ht.err]
  rw [hb] at CB
  have IS := fun W => isShort_any s W (by omega)
  have IT := fun W => isShort_any t W (by omega)
  rw [hs.short hx] at IS
  rw [ht.short hy] at IT
  have WS := fun W => wordZ_any s x W hs.text (by omega) (by omega)
  have WT := fun W => wordZ_any t y W ht.text (by omega) (by omega)
  have FI : ∀ W : World, Below w.heap.size w W → Calls Tryz.prog 117 #[.int .i64 r, .int .i64 10] W fun e w' => e = .returned (.string (str (Lib.itoa r))) ∧ Below W.heap.size W w' := fun W hW =>
    (Tryz.strconv_FormatInt_10 r hr0 hr1 W ((Lib.tabBelow_of_tabIs htab).on hW).here).mono fun e w' ⟨h1, k, os, h2⟩ => ⟨h1, by rw [h2]; exact Lib.below_grow _ W (Nat.le_refl _) k os⟩
  have HCB := Lib.hid CB; have HIS := Lib.hid IS; have HIT := Lib.hid IT; have HWS := Lib.hid WS; have HWT := Lib.hid WT; have HFI := Lib.hid FI; have HHS := Lib.hid HS
  clear CB IS IT WS WT FI HS hb htab hs ht hx hy hr0 hr1
  generalize str (Lib.itoa r) = rs at *
  unfold opV
  have B0 : Below w.heap.size w (w.alloc (Obj.cells #[.func (.func 95) #[] #[], .func (.func 96) #[] #[]] 75)) := (Below.refl _ _).alloc (Nat.le_refl _) _
  have c0 : (w.alloc (Obj.cells #[.func (.func 95) #[] #[], .func (.func 96) #[] #[]] 75)).cell? ⟨w.heap.size, 0, none⟩ = some (.func (.func 95) #[] #[]) := by go_cell
  go_enter Tryz.func77, Tryz.ntmps77
  go_wp2_with (go_at_call 73; refine (HCB.out _).mono ?_; rintro e w1 ⟨rfl, rfl⟩; refine Hid.out ?_)
  refine Lib.hid ?_
  go_wp2_with (go_at_call 116; refine (HIS.out _).mono ?_; rintro e w1 ⟨rfl, rfl⟩; refine Hid.out ?_)
  refine Lib.hid ?_
  go_wp2_with (go_at_call 116; refine (HIT.out _).mono ?_; rintro e w1 ⟨rfl, rfl⟩; refine Hid.out ?_)
  refine Lib.hid ?_
  go_wp2_with fail
  generalize w.alloc (Obj.cells #[.func (.func 95) #[] #[], .func (.func 96) #[] #[]] 75) = W at *
  have HB := Lib.hid B0; clear B0
  have hcell : ∀ d os, (grow (redrawn W d) os).cell? ⟨w.heap.size, 0, none⟩ = some (.func (.func 95) #[] #[]) := fun d os => cell_regrown c0 d os
  have cS : ∀ d os, Calls Tryz.prog 118 #[.string s] (grow (redrawn W d) os) fun e w'' => e = .returned (.int .i64 x) ∧ ∃ p : Regrown, w'' = grow (redrawn W p.d) p.os := fun d os => Calls.regrown_of (HWS.out _)
  have cT : ∀ d os, Calls Tryz.prog 118 #[.string t] (grow (redrawn W d) os) fun e w'' => e = .returned (.int .i64 y) ∧ ∃ p : Regrown, w'' = grow (redrawn W p.d) p.os := fun d os => Calls.regrown_of (HWT.out _)
  have cF : ∀ d os, Calls Tryz.prog 117 #[.int .i64 r, .int .i64 10] (grow (redrawn W d) os) fun e w'' => e = .returned (.string rs) ∧ ∃ p : Regrown, w'' = grow (redrawn W p.d) p.os := fun d os => Calls.regrown_of (HFI.out _ (Below.chain HB.out (below_regrown W d os)))
  have cH : ∀ d os, Calls Tryz.prog 95 #[.int .i64 x, .int .i64 y] (grow (redrawn W d) os) fun e w'' => e = .returned (.int .i64 r) ∧ ∃ p : Regrown, w'' = grow (redrawn W p.d) p.os := fun d os => Calls.regrown_of (HHS.out _)
  have KS := Lib.hid cS; have KT := Lib.hid cT; have KF := Lib.hid cF; have KH := Lib.hid cH
  clear cS cT cF cH
  refine wp_region_quiet_below (by kernel_rfl) (by kernel_rfl) ?_
  quiet_step (fail)
  quiet_step (fail)
  quiet_step (fail)
  quiet_step (exact KS.out _ _)
  quiet_step (fail)
  quiet_step (exact KT.out _ _)
  quiet_step (exact KH.out _ _)
  quiet_step (exact KF.out _ _)
  quiet_step (fail)
  quiet_step (fail)
  refine wpQuiet_nil ?_
  intro _ hw'
  obtain ⟨⟨dq, osq⟩, hw''⟩ := hw'
  subst hw''
  go_wp2
  refine bodyPost_ret (by simp [results, Tryz.results77, go_sem]; rfl) rfl ?_
  exact ⟨rfl, Below.chain HB.out (below_regrown W dq osq)⟩
end Go.Proofs.YtipnnmbjkpidoaaGreatDoor
