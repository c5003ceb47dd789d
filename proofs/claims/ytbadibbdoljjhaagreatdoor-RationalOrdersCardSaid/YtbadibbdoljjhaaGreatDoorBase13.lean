import Derived.Test.YtbadibbdoljjhaaGreatDoorBase12
import Derived.Test.YtbadibbdoljjhaaGreatDoorBase3
import Derived.Test.YtbadibbdoljjhaaGreatDoorBase4
import Derived.Lib.BitFns
import Derived.Lib.RabinKarpLaws

set_option linter.unusedVariables false
/-
  bigint: compute with errors, divide, Quo, Rem.
-/
namespace Go.Proofs.YtbadibbdoljjhaaGreatDoor
open Go Go.Proofs Go.RowKit

/-- What an operation returns with an error. -/
def errV (e : Nat) : Value := .tuple #[.string ⟨#[]⟩, .int .i64 (e : Nat)]

set_option maxHeartbeats 1000000 in
theorem compute_err (fs fl : Nat) (s t : ByteArray) (w : World) (hs : s.size ≤ 9223372036854775807) (ht : t.size ≤ 9223372036854775807) (h : errBoth (bytes s) (bytes t) ≠ 0) :
    Calls Tryz.prog 81 #[opV fs fl, .string s, .string t] w fun e w' => e = .returned (errV (errBoth (bytes s) (bytes t))) ∧ Below w.heap.size w w' := by
  have CB := fun W => checkBoth_any s t W hs ht
  rcases errBoth_cases (bytes s) (bytes t) with h0 | h0 | h0
  · exact absurd h0 h
  all_goals
    rw [h0] at CB ⊢
    have HCB := Lib.hid CB
    clear CB h h0 hs ht
    unfold opV errV
    go_enter Tryz.func81, Tryz.ntmps81
    go_wp2_with (go_at_call 90; refine (HCB.out _).mono ?_; rintro e w1 ⟨rfl, rfl⟩; refine Hid.out ?_)
    refine Lib.hid ?_
    go_wp2
    refine bodyPost_ret (by simp [results, Tryz.results81, go_sem]; rfl) rfl ?_
    exact ⟨rfl, by go_grown⟩

set_option maxHeartbeats 1000000 in
theorem divide_other (fs fl : Nat) (s t a : ByteArray) (e0 : Nat) (w : World) (hs : s.size ≤ 9223372036854775807) (hne : t ≠ ⟨#[48]⟩)
    (HC : ∀ W : World, Below w.heap.size w W → Calls Tryz.prog 81 #[opV fs fl, .string s, .string t] W fun e w' => e = .returned (.tuple #[.string a, .int .i64 e0]) ∧ Below W.heap.size W w') :
    Calls Tryz.prog 121 #[opV fs fl, .string s, .string t] w fun e w' => e = .returned (.tuple #[.string a, .int .i64 e0]) ∧ Below w.heap.size w w' := by
  have hd : (t.toList == [48]) = false := by
    rw [beq_eq_false_iff_ne]
    intro h
    have h2 : bytes t = [48] := h ▸ (ByteArray.toList_eq t).symm
    exact hne (ByteArray.ext (Array.ext' h2))
  have KC := Lib.hid HC; clear HC hne
  unfold opV at *
  go_enter Tryz.func121, Tryz.ntmps121
  go_wp2_with (go_at_call 81; refine (KC.out _ (by go_grown)).mono ?_; rintro e w1 ⟨rfl, hb1⟩; refine Hid.out ?_)
  have hbF : Below w.heap.size w w1 := by refine Below.chain ?_ hb1; go_grown
  clear hb1
  refine Lib.hid ?_
  go_wp2
  refine bodyPost_ret (by simp [results, Tryz.results121, go_sem]; rfl) rfl ?_
  exact ⟨rfl, hbF⟩

set_option maxHeartbeats 1000000 in
theorem divide_zero (fs fl : Nat) (s : ByteArray) (w : World) (hs : s.size ≤ 9223372036854775807) (he : errOf (bytes s) = 0) :
    Calls Tryz.prog 121 #[opV fs fl, .string s, .string ⟨#[48]⟩] w fun e w' => e = .returned (errV 19) ∧ Below w.heap.size w w' := by
  have CC := fun W => check_any s W hs
  rw [he] at CC
  have KC := Lib.hid CC; clear CC he hs
  unfold opV errV at *
  go_enter Tryz.func121, Tryz.ntmps121
  go_wp2_with (go_at_call 80; refine (KC.out _).mono ?_; rintro e w1 ⟨rfl, rfl⟩; refine Hid.out ?_)
  refine Lib.hid ?_
  go_wp2
  refine bodyPost_ret (by simp [results, Tryz.results121, go_sem]; rfl) rfl ?_
  exact ⟨rfl, by go_grown⟩

set_option maxHeartbeats 1000000 in
theorem divide_zeroBad (fs fl : Nat) (s : ByteArray) (w : World) (hs : s.size ≤ 9223372036854775807) (he : errOf (bytes s) ≠ 0) :
    Calls Tryz.prog 121 #[opV fs fl, .string s, .string ⟨#[48]⟩] w fun e w' => e = .returned (errV (errOf (bytes s))) ∧ Below w.heap.size w w' := by
  have CC := fun W => check_any s W hs
  have HC : ∀ W : World, Calls Tryz.prog 81 #[opV fs fl, .string s, .string ⟨#[48]⟩] W fun e w' => e = .returned (errV (errOf (bytes s))) ∧ Below W.heap.size W w' := fun W => by
    have hb : errBoth (bytes s) (bytes ⟨#[48]⟩) = errOf (bytes s) := by unfold errBoth; rw [if_neg he]
    have := compute_err fs fl s ⟨#[48]⟩ W hs (by decide) (by rw [hb]; exact he)
    rwa [hb] at this
  rcases errOf_cases (bytes s) with h0 | h0 | h0
  · exact absurd h0 he
  all_goals
    rw [h0] at CC HC ⊢
    have KK := Lib.hid CC; have KC := Lib.hid HC
    clear CC HC he h0 hs
    unfold opV errV at *
    go_enter Tryz.func121, Tryz.ntmps121
    go_wp2_with (go_at_call 80; refine (KK.out _).mono ?_; rintro e w1 ⟨rfl, rfl⟩; refine Hid.out ?_)
    refine Lib.hid ?_
    go_wp2_with (go_at_call 81; refine (KC.out _).mono ?_; rintro e w1 ⟨rfl, hb1⟩; refine Hid.out ?_)
    have hbF : Below w.heap.size w w1 := by refine Below.chain ?_ hb1; go_grown
    clear hb1
    refine Lib.hid ?_
    go_wp2
    refine bodyPost_ret (by simp [results, Tryz.results121, go_sem]; rfl) rfl ?_
    exact ⟨rfl, hbF⟩

theorem fdiv_le (x y : Int) (hy : y ≠ 0) : (x.fdiv y).natAbs ≤ x.natAbs := by
  have hp : 0 < y.natAbs := by omega
  by_cases h : (x < 0) = (y < 0)
  · rw [fdiv_same x y hy h, Int.natAbs_natCast]
    exact Nat.div_le_self x.natAbs y.natAbs
  · rw [fdiv_opp x y hy h, Int.natAbs_neg, Int.natAbs_natCast]
    generalize x.natAbs = a at *
    generalize y.natAbs = b at *
    have : (a + b - 1) / b ≤ a := by
      clear h
      refine Nat.le_of_lt_succ ((Nat.div_lt_iff_lt_mul hp).2 ?_)
      rw [Nat.succ_mul]
      have := Nat.le_mul_of_pos_right a hp
      generalize a * b = q at *
      omega
    exact this
theorem missN_lt (x y : Nat) (hy : 0 < y) : missN x y < y := by
  unfold missN
  have := Nat.mod_lt x hy
  split <;> omega
theorem fmod_lt (x y : Int) (hy : y ≠ 0) : (x.fmod y).natAbs < y.natAbs := by
  have hp : 0 < y.natAbs := by omega
  have h1 := Nat.mod_lt x.natAbs hp
  have h2 := missN_lt x.natAbs y.natAbs hp
  by_cases hx : x < 0 <;> by_cases h : y < 0
  · rw [fmod_nn x y hx h]; omega
  · rw [fmod_np x y hy hx h]; omega
  · rw [fmod_pn x y hy hx h]; omega
  · rw [fmod_pp x y hx h]; omega

theorem compQuo (s t : ByteArray) (x y : Int) (w : World) (hs : Str s x) (ht : Str t y) (hy0 : y ≠ 0) (htab : Lib.TabIs Tryz.prog w "internal/strconv.uint64pow10" .u64 Lib.pow10Tab) :
    Calls Tryz.prog 81 #[opV 122 123, .string s, .string t] w fun e w' => e = .returned (resV (x.fdiv y)) ∧ Below w.heap.size w w' := by
  have hle := fdiv_le x y hy0
  by_cases h : x.natAbs < 1000000000 ∧ y.natAbs < 1000000000
  · have := compQuo_short s t x y (x.fdiv y) w hs ht h.1 h.2 (by omega) (by omega) (fun W => quoS x y W h.1 h.2 hy0) htab
    rwa [← resV_small (r := x.fdiv y) (by omega)] at this
  · exact compQuo_long s t x y (x.fdiv y) w hs ht h (Nat.le_trans (limbs_length_mono hle) (by have := hs.limbs; omega)) (fun W v1 v2 h1 h2 => quotientZ x y v1 v2 W h1 h2 (by have := hs.limbs; omega) (by have := ht.limbs; omega) hy0) htab

theorem compRem (s t : ByteArray) (x y : Int) (w : World) (hs : Str s x) (ht : Str t y) (hy0 : y ≠ 0) (htab : Lib.TabIs Tryz.prog w "internal/strconv.uint64pow10" .u64 Lib.pow10Tab) :
    Calls Tryz.prog 81 #[opV 124 125, .string s, .string t] w fun e w' => e = .returned (resV (x.fmod y)) ∧ Below w.heap.size w w' := by
  have hle := fmod_lt x y hy0
  by_cases h : x.natAbs < 1000000000 ∧ y.natAbs < 1000000000
  · have := compRem_short s t x y (x.fmod y) w hs ht h.1 h.2 (by omega) (by omega) (fun W => remS x y W h.1 h.2 hy0) htab
    rwa [← resV_small (r := x.fmod y) (by omega)] at this
  · exact compRem_long s t x y (x.fmod y) w hs ht h (Nat.le_trans (limbs_length_mono (Nat.le_of_lt hle)) (by have := ht.limbs; omega)) (fun W v1 v2 h1 h2 => remainderZ x y v1 v2 W h1 h2 (by have := hs.limbs; omega) (by have := ht.limbs; omega) hy0) htab

theorem Str.ne_zero {t : ByteArray} {y : Int} (h : Str t y) (hy : y ≠ 0) : t ≠ ⟨#[48]⟩ := by
  intro e
  subst e
  have h1 := h.text
  have h2 : bytes ⟨#[48]⟩ = Lib.itoa 0 := by rw [itoa_nonneg (by omega)]; exact dec0'.symm
  rw [h2] at h1
  exact hy (itoa_inj h1).symm

set_option maxHeartbeats 1000000 in
theorem quo_of (s t a : ByteArray) (e0 : Nat) (w : World)
    (C : Calls Tryz.prog 121 #[opV 122 123, .string s, .string t] w fun e w' => e = .returned (.tuple #[.string a, .int .i64 e0]) ∧ Below w.heap.size w w') :
    Calls Tryz.prog 65 #[.string s, .string t] w fun e w' => e = .returned (.tuple #[.string a, .int .i64 e0]) ∧ Below w.heap.size w w' := by
  unfold opV at C
  have HC := Lib.hid C; clear C
  go_enter Tryz.func65, Tryz.ntmps65
  go_wp2_with (go_at_call 121; refine HC.out.mono ?_; rintro e w2 ⟨rfl, hb2⟩; refine Hid.out ?_)
  refine Lib.hid ?_
  go_wp2
  refine bodyPost_ret (by simp [results, Tryz.results65, go_sem]; rfl) rfl ?_
  exact ⟨rfl, hb2⟩

theorem quoZ (s t : ByteArray) (x y : Int) (w : World) (hs : Str s x) (ht : Str t y) (hy0 : y ≠ 0) (htab : Lib.TabIs Tryz.prog w "internal/strconv.uint64pow10" .u64 Lib.pow10Tab) :
    Calls Tryz.prog 65 #[.string s, .string t] w fun e w' => e = .returned (resV (x.fdiv y)) ∧ Below w.heap.size w w' := by
  have C : ∀ W : World, Below w.heap.size w W → Calls Tryz.prog 81 #[opV 122 123, .string s, .string t] W fun e w' => e = .returned (resV (x.fdiv y)) ∧ Below W.heap.size W w' := fun W hW => compQuo s t x y W hs ht hy0 ((Lib.tabBelow_of_tabIs htab).on hW).here
  obtain ⟨a, e0, hr⟩ := resV_parts (x.fdiv y)
  rw [hr] at C ⊢
  have := hs.size
  exact quo_of s t a e0 w (divide_other _ _ s t a e0 w (by omega) (ht.ne_zero hy0) C)

theorem quo_zero (s : ByteArray) (w : World) (hs : s.size ≤ 9223372036854775807) (he : errOf (bytes s) = 0) :
    Calls Tryz.prog 65 #[.string s, .string ⟨#[48]⟩] w fun e w' => e = .returned (errV 19) ∧ Below w.heap.size w w' := quo_of s _ _ 19 w (divide_zero _ _ s w hs he)

theorem quo_err (s t : ByteArray) (w : World) (hs : s.size ≤ 9223372036854775807) (ht : t.size ≤ 9223372036854775807) (h : errBoth (bytes s) (bytes t) ≠ 0) :
    Calls Tryz.prog 65 #[.string s, .string t] w fun e w' => e = .returned (errV (errBoth (bytes s) (bytes t))) ∧ Below w.heap.size w w' := by
  by_cases hz : t = ⟨#[48]⟩
  · subst hz
    have h1 : errOf (bytes ⟨#[48]⟩) = 0 := by decide
    have hb : errBoth (bytes s) (bytes ⟨#[48]⟩) = errOf (bytes s) := by
      unfold errBoth
      split
      · next h0 => rw [h0, h1]
      · rfl
    rw [hb] at h ⊢
    exact quo_of s _ _ _ w (divide_zeroBad _ _ s w hs h)
  · exact quo_of s t _ _ w (divide_other _ _ s t _ _ w hs hz fun W hW => compute_err _ _ s t W hs ht h)

set_option maxHeartbeats 1000000 in
theorem rem_of (s t a : ByteArray) (e0 : Nat) (w : World)
    (C : Calls Tryz.prog 121 #[opV 124 125, .string s, .string t] w fun e w' => e = .returned (.tuple #[.string a, .int .i64 e0]) ∧ Below w.heap.size w w') :
    Calls Tryz.prog 66 #[.string s, .string t] w fun e w' => e = .returned (.tuple #[.string a, .int .i64 e0]) ∧ Below w.heap.size w w' := by
  unfold opV at C
  have HC := Lib.hid C; clear C
  go_enter Tryz.func66, Tryz.ntmps66
  go_wp2_with (go_at_call 121; refine HC.out.mono ?_; rintro e w2 ⟨rfl, hb2⟩; refine Hid.out ?_)
  refine Lib.hid ?_
  go_wp2
  refine bodyPost_ret (by simp [results, Tryz.results66, go_sem]; rfl) rfl ?_
  exact ⟨rfl, hb2⟩

theorem remZ (s t : ByteArray) (x y : Int) (w : World) (hs : Str s x) (ht : Str t y) (hy0 : y ≠ 0) (htab : Lib.TabIs Tryz.prog w "internal/strconv.uint64pow10" .u64 Lib.pow10Tab) :
    Calls Tryz.prog 66 #[.string s, .string t] w fun e w' => e = .returned (resV (x.fmod y)) ∧ Below w.heap.size w w' := by
  have C : ∀ W : World, Below w.heap.size w W → Calls Tryz.prog 81 #[opV 124 125, .string s, .string t] W fun e w' => e = .returned (resV (x.fmod y)) ∧ Below W.heap.size W w' := fun W hW => compRem s t x y W hs ht hy0 ((Lib.tabBelow_of_tabIs htab).on hW).here
  obtain ⟨a, e0, hr⟩ := resV_parts (x.fmod y)
  rw [hr] at C ⊢
  have := hs.size
  exact rem_of s t a e0 w (divide_other _ _ s t a e0 w (by omega) (ht.ne_zero hy0) C)

theorem rem_zero (s : ByteArray) (w : World) (hs : s.size ≤ 9223372036854775807) (he : errOf (bytes s) = 0) :
    Calls Tryz.prog 66 #[.string s, .string ⟨#[48]⟩] w fun e w' => e = .returned (errV 19) ∧ Below w.heap.size w w' := rem_of s _ _ 19 w (divide_zero _ _ s w hs he)

theorem rem_err (s t : ByteArray) (w : World) (hs : s.size ≤ 9223372036854775807) (ht : t.size ≤ 9223372036854775807) (h : errBoth (bytes s) (bytes t) ≠ 0) :
    Calls Tryz.prog 66 #[.string s, .string t] w fun e w' => e = .returned (errV (errBoth (bytes s) (bytes t))) ∧ Below w.heap.size w w' := by
  by_cases hz : t = ⟨#[48]⟩
  · subst hz
    have h1 : errOf (bytes ⟨#[48]⟩) = 0 := by decide
    have hb : errBoth (bytes s) (bytes ⟨#[48]⟩) = errOf (bytes s) := by
      unfold errBoth
      split
      · next h0 => rw [h0, h1]
      · rfl
    rw [hb] at h ⊢
    exact rem_of s _ _ _ w (divide_zeroBad _ _ s w hs h)
  · exact rem_of s t _ _ w (divide_other _ _ s t _ _ w hs hz fun W hW => compute_err _ _ s t W hs ht h)

end Go.Proofs.YtbadibbdoljjhaaGreatDoor

/-
  bigint: Abs, Neg, Sign, Min, Max, Of.
-/
namespace Go.Proofs.YtbadibbdoljjhaaGreatDoor
open Go Go.Proofs Go.RowKit

theorem eq48 (s : ByteArray) (h : s ≠ ⟨#[48]⟩) : (s.toList == [48]) = false := by
  rw [beq_eq_false_iff_ne]
  intro h1
  have h2 : bytes s = [48] := h1 ▸ (ByteArray.toList_eq s).symm
  exact h (ByteArray.ext (Array.ext' h2))

theorem abs_any (s : ByteArray) (w : World) (hs : s.size ≤ 9223372036854775807) :
    Calls Tryz.prog 64 #[.string s] w fun e w' => e = .returned (if errOf (bytes s) = 0 then .tuple #[.string (str (digL (bytes s))), .int .i64 0] else errV (errOf (bytes s))) ∧ w' = w := by
  have C1 := fun W => check_any s W hs
  have C2 := fun W => digits_any s W
  have hc := errOf_cases (bytes s)
  unfold errV
  generalize errOf (bytes s) = c at *
  generalize str (digL (bytes s)) = r at *
  have K1 := Lib.hid C1; have K2 := Lib.hid C2; clear C1 C2 hs
  rcases hc with rfl | rfl | rfl
  · go_enter Tryz.func64, Tryz.ntmps64
    go_wp2_with (go_at_call 80; refine (K1.out _).mono ?_; rintro e w1 ⟨rfl, rfl⟩; refine Hid.out ?_)
    refine Lib.hid ?_
    go_wp2_with (go_at_call 116; refine (K2.out _).mono ?_; rintro e w1 ⟨rfl, rfl⟩; refine Hid.out ?_)
    refine Lib.hid ?_
    go_wp2
    refine bodyPost_ret (by simp [results, Tryz.results64, go_sem]; rfl) rfl ?_
    exact ⟨rfl, rfl⟩
  all_goals
    go_enter Tryz.func64, Tryz.ntmps64
    go_wp2_with (go_at_call 80; refine (K1.out _).mono ?_; rintro e w1 ⟨rfl, rfl⟩; refine Hid.out ?_)
    refine Lib.hid ?_
    go_wp2
    refine bodyPost_ret (by simp [results, Tryz.results64, go_sem]; rfl) rfl ?_
    exact ⟨rfl, rfl⟩

def negL (l : List UInt8) : List UInt8 := if l = [48] then l else if negB l = true then digL l else 45 :: l

theorem neg_any (s : ByteArray) (w : World) (hs : s.size ≤ 1000000000000) :
    Calls Tryz.prog 54 #[.string s] w fun e w' => e = .returned (if errOf (bytes s) = 0 then .tuple #[.string (str (negL (bytes s))), .int .i64 0] else errV (errOf (bytes s))) ∧ w' = w := by
  have C1 := fun W => check_any s W (by omega)
  have C2 := fun W => digits_any s W
  have C3 := fun W => isNegative_any s W
  have hc := errOf_cases (bytes s)
  unfold errV
  generalize errOf (bytes s) = c at *
  have K1 := Lib.hid C1; have K2 := Lib.hid C2; have K3 := Lib.hid C3; clear C1 C2 C3
  rcases hc with rfl | rfl | rfl
  · by_cases hz : s = ⟨#[48]⟩
    · subst hz
      go_enter Tryz.func54, Tryz.ntmps54
      go_wp2_with (go_at_call 80; refine (K1.out _).mono ?_; rintro e w1 ⟨rfl, rfl⟩; refine Hid.out ?_)
      refine Lib.hid ?_
      go_wp2
      refine bodyPost_ret (by simp [results, Tryz.results54, go_sem]; rfl) rfl ?_
      exact ⟨rfl, rfl⟩
    · have hd := eq48 s hz
      have hne : bytes s ≠ [48] := fun h => hz (ByteArray.ext (Array.ext' h))
      have HN := Lib.hid hne; clear hz hne
      cases hn : negB (bytes s)
      · have e1 : str (negL (bytes s)) = ⟨#[45]⟩ ++ s := by
          unfold negL
          rw [if_neg HN.out, if_neg (by simp [hn])]
          apply ByteArray.ext
          apply Array.ext'
          simp [str, bytes]
        rw [e1]
        rw [hn] at K3
        clear e1 hn
        go_enter Tryz.func54, Tryz.ntmps54
        go_wp2_with (go_at_call 80; refine (K1.out _).mono ?_; rintro e w1 ⟨rfl, rfl⟩; refine Hid.out ?_)
        refine Lib.hid ?_
        go_wp2_with (go_at_call 115; refine (K3.out _).mono ?_; rintro e w1 ⟨rfl, rfl⟩; refine Hid.out ?_)
        refine Lib.hid ?_
        go_wp2
        refine bodyPost_ret (by simp [results, Tryz.results54, go_sem]; rfl) rfl ?_
        exact ⟨rfl, rfl⟩
      · have e1 : str (negL (bytes s)) = str (digL (bytes s)) := by
          unfold negL
          rw [if_neg HN.out, if_pos hn]
        rw [e1]
        rw [hn] at K3
        clear e1 hn
        generalize str (digL (bytes s)) = r at *
        go_enter Tryz.func54, Tryz.ntmps54
        go_wp2_with (go_at_call 80; refine (K1.out _).mono ?_; rintro e w1 ⟨rfl, rfl⟩; refine Hid.out ?_)
        refine Lib.hid ?_
        go_wp2_with (go_at_call 115; refine (K3.out _).mono ?_; rintro e w1 ⟨rfl, rfl⟩; refine Hid.out ?_)
        refine Lib.hid ?_
        go_wp2_with (go_at_call 116; refine (K2.out _).mono ?_; rintro e w1 ⟨rfl, rfl⟩; refine Hid.out ?_)
        refine Lib.hid ?_
        go_wp2
        refine bodyPost_ret (by simp [results, Tryz.results54, go_sem]; rfl) rfl ?_
        exact ⟨rfl, rfl⟩
  all_goals
    go_enter Tryz.func54, Tryz.ntmps54
    go_wp2_with (go_at_call 80; refine (K1.out _).mono ?_; rintro e w1 ⟨rfl, rfl⟩; refine Hid.out ?_)
    refine Lib.hid ?_
    go_wp2
    refine bodyPost_ret (by simp [results, Tryz.results54, go_sem]; rfl) rfl ?_
    exact ⟨rfl, rfl⟩

theorem absZ (s : ByteArray) (x : Int) (w : World) (hs : Str s x) :
    Calls Tryz.prog 64 #[.string s] w fun e w' => e = .returned (.tuple #[.string (str (Lib.itoa (x.natAbs : Int))), .int .i64 0]) ∧ w' = w := by
  have := abs_any s w (by have := hs.size; omega)
  rw [hs.err, if_pos rfl, hs.text, digL_itoa] at this
  rwa [itoa_nonneg (by omega), Int.natAbs_natCast]
theorem negL_itoa (x : Int) : negL (Lib.itoa x) = Lib.itoa (-x) := by
  unfold negL
  by_cases h0 : x = 0
  · subst h0
    rw [if_pos (by rw [itoa_nonneg (by omega)]; exact dec0')]; rfl
  · have hne : ¬ Lib.itoa x = [48] := by
      have h2 : Lib.itoa 0 = [48] := by rw [itoa_nonneg (by omega)]; exact dec0'
      rw [← h2]
      exact fun h => h0 (itoa_inj h)
    rw [if_neg hne, negB_itoa, digL_itoa]
    by_cases hx : x < 0
    · rw [decide_eq_true hx, if_pos rfl, itoa_nonneg (by omega), Int.natAbs_neg]
    · rw [decide_eq_false hx, if_neg (by simp), itoa_nonneg hx, itoa_neg (by omega), Int.natAbs_neg]
theorem negZ (s : ByteArray) (x : Int) (w : World) (hs : Str s x) :
    Calls Tryz.prog 54 #[.string s] w fun e w' => e = .returned (.tuple #[.string (str (Lib.itoa (-x))), .int .i64 0]) ∧ w' = w := by
  have := neg_any s w (by have := hs.size; omega)
  rwa [hs.err, if_pos rfl, hs.text, negL_itoa] at this

theorem cmpR_parts (a b : List UInt8) : ∃ (r : Int) (e : Nat), cmpR a b = .tuple #[.int .i64 r, .int .i64 e] ∧ r = (if errBoth a b = 0 then ordZ a b else 0) ∧ e = errBoth a b := ⟨_, _, rfl, rfl, rfl⟩

theorem sign_any (s : ByteArray) (w : World) (hs : s.size ≤ 9223372036854775807) :
    Calls Tryz.prog 56 #[.string s] w fun e w' => e = .returned (cmpR (bytes s) [48]) ∧ w' = w := by
  have C := fun W => compareZ_any s ⟨#[48]⟩ W hs (by decide)
  rw [show bytes ⟨#[48]⟩ = [48] from rfl] at C
  obtain ⟨r, e0, h, -, -⟩ := cmpR_parts (bytes s) [48]
  rw [h] at C ⊢
  have KC := Lib.hid C; clear C h hs
  go_enter Tryz.func56, Tryz.ntmps56
  go_wp2_with (go_at_call 67; refine (KC.out _).mono ?_; rintro e w1 ⟨rfl, rfl⟩; refine Hid.out ?_)
  refine Lib.hid ?_
  go_wp2
  refine bodyPost_ret (by simp [results, Tryz.results56, go_sem]; rfl) rfl ?_
  exact ⟨rfl, rfl⟩

theorem ordZ_str {s t : ByteArray} {x y : Int} (hs : Str s x) (ht : Str t y) : ordZ (bytes s) (bytes t) = cmpI x y := by
  rw [hs.text, ht.text]; exact ordZ_itoa x y
theorem compareS (s t : ByteArray) (x y : Int) (w : World) (hs : Str s x) (ht : Str t y) :
    Calls Tryz.prog 67 #[.string s, .string t] w fun e w' => e = .returned (.tuple #[.int .i64 (cmpI x y), .int .i64 0]) ∧ w' = w := by
  have h1 := hs.size; have h2 := ht.size
  have := compareZ_any s t w (by omega) (by omega)
  unfold cmpR at this
  have hb : errBoth (bytes s) (bytes t) = 0 := by unfold errBoth; rw [if_pos hs.err, ht.err]
  rwa [hb, if_pos rfl, ordZ_str hs ht] at this
theorem str_zero : Str ⟨#[48]⟩ 0 := ⟨by rw [itoa_nonneg (by omega)]; exact dec0'.symm, by rw [show ((0 : Int).natAbs) = 0 from rfl, dec0']; decide⟩
theorem signS (s : ByteArray) (x : Int) (w : World) (hs : Str s x) :
    Calls Tryz.prog 56 #[.string s] w fun e w' => e = .returned (.tuple #[.int .i64 (cmpI x 0), .int .i64 0]) ∧ w' = w := by
  have h1 := hs.size
  have := sign_any s w (by omega)
  unfold cmpR at this
  have hb : errBoth (bytes s) [48] = 0 := by unfold errBoth; rw [if_pos hs.err]; rfl
  rw [hb, if_pos rfl] at this
  have e : ordZ (bytes s) [48] = cmpI x 0 := ordZ_str hs str_zero
  rwa [e] at this

end Go.Proofs.YtbadibbdoljjhaaGreatDoor

/-
  bigint.compute of Gcd, for short integers. (made by tools/comp.py)
-/
namespace Go.Proofs.YtbadibbdoljjhaaGreatDoor
open Go Go.Proofs Go.RowKit Go.Sort

set_option maxHeartbeats 4000000 in
theorem compGcd_short (s t : ByteArray) (x y r : Int) (w : World) (hs : Str s x) (ht : Str t y) (hx : x.natAbs < 1000000000) (hy : y.natAbs < 1000000000) (hr0 : -9223372036854775808 ≤ r) (hr1 : r ≤ 9223372036854775807)
    (HS : ∀ W : World, Calls Tryz.prog 82 #[.int .i64 x, .int .i64 y] W fun e w' => e = .returned (.int .i64 r) ∧ Below W.heap.size W w')
    (htab : Lib.TabIs Tryz.prog w "internal/strconv.uint64pow10" .u64 Lib.pow10Tab) :
    Calls Tryz.prog 81 #[opV 82 83, .string s, .string t] w fun e w' => e = .returned (.tuple #[.string (str (Lib.itoa r)), .int .i64 0]) ∧ Below w.heap.size w w' := by
  have hsz := hs.size
  have htz := ht.size
  have CB := fun W => checkBoth_any s t W (by omega) (by omega)
  have hb : errBoth (bytes s) (bytes t) = 0 := by unfold errBoth; rw [if_pos hs.err, ht.err]
  rw [hb] at CB
  have IS := fun W => isShort_any s W (by omega)
  have IT := fun W => isShort_any t W (by omega)
  rw [hs.short hx] at IS
  rw [ht.short hy] at IT
  have WS := fun W => wordZ_any s x W hs.text (by omega) (by omega)
  have WT := fun W => wordZ_any t y W ht.text (by omega) (by omega)
  have FI : ∀ W : World, Below w.heap.size w W → Calls Tryz.prog 134 #[.int .i64 r, .int .i64 10] W fun e w' => e = .returned (.string (str (Lib.itoa r))) ∧ Below W.heap.size W w' := fun W hW =>
    (Tryz.strconv_FormatInt_10 r hr0 hr1 W ((Lib.tabBelow_of_tabIs htab).on hW).here).mono fun e w' ⟨h1, k, os, h2⟩ => ⟨h1, by rw [h2]; exact Lib.below_grow _ W (Nat.le_refl _) k os⟩
  have HCB := Lib.hid CB; have HIS := Lib.hid IS; have HIT := Lib.hid IT; have HWS := Lib.hid WS; have HWT := Lib.hid WT; have HFI := Lib.hid FI; have HHS := Lib.hid HS
  clear CB IS IT WS WT FI HS hb htab hs ht hx hy hr0 hr1
  generalize str (Lib.itoa r) = rs at *
  unfold opV
  have B0 : Below w.heap.size w (w.alloc (Obj.cells #[.func (.func 82) #[] #[], .func (.func 83) #[] #[]] 87)) := (Below.refl _ _).alloc (Nat.le_refl _) _
  have c0 : (w.alloc (Obj.cells #[.func (.func 82) #[] #[], .func (.func 83) #[] #[]] 87)).cell? ⟨w.heap.size, 0, none⟩ = some (.func (.func 82) #[] #[]) := by go_cell
  go_enter Tryz.func81, Tryz.ntmps81
  go_wp2_with (go_at_call 90; refine (HCB.out _).mono ?_; rintro e w1 ⟨rfl, rfl⟩; refine Hid.out ?_)
  refine Lib.hid ?_
  go_wp2_with (go_at_call 133; refine (HIS.out _).mono ?_; rintro e w1 ⟨rfl, rfl⟩; refine Hid.out ?_)
  refine Lib.hid ?_
  go_wp2_with (go_at_call 133; refine (HIT.out _).mono ?_; rintro e w1 ⟨rfl, rfl⟩; refine Hid.out ?_)
  refine Lib.hid ?_
  go_wp2_with fail
  generalize w.alloc (Obj.cells #[.func (.func 82) #[] #[], .func (.func 83) #[] #[]] 87) = W at *
  have HB := Lib.hid B0; clear B0
  have hcell : ∀ d os, (grow (redrawn W d) os).cell? ⟨w.heap.size, 0, none⟩ = some (.func (.func 82) #[] #[]) := fun d os => cell_regrown c0 d os
  have cS : ∀ d os, Calls Tryz.prog 135 #[.string s] (grow (redrawn W d) os) fun e w'' => e = .returned (.int .i64 x) ∧ ∃ p : Regrown, w'' = grow (redrawn W p.d) p.os := fun d os => Calls.regrown_of (HWS.out _)
  have cT : ∀ d os, Calls Tryz.prog 135 #[.string t] (grow (redrawn W d) os) fun e w'' => e = .returned (.int .i64 y) ∧ ∃ p : Regrown, w'' = grow (redrawn W p.d) p.os := fun d os => Calls.regrown_of (HWT.out _)
  have cF : ∀ d os, Calls Tryz.prog 134 #[.int .i64 r, .int .i64 10] (grow (redrawn W d) os) fun e w'' => e = .returned (.string rs) ∧ ∃ p : Regrown, w'' = grow (redrawn W p.d) p.os := fun d os => Calls.regrown_of (HFI.out _ (Below.chain HB.out (below_regrown W d os)))
  have cH : ∀ d os, Calls Tryz.prog 82 #[.int .i64 x, .int .i64 y] (grow (redrawn W d) os) fun e w'' => e = .returned (.int .i64 r) ∧ ∃ p : Regrown, w'' = grow (redrawn W p.d) p.os := fun d os => Calls.regrown_of (HHS.out _)
  have KS := Lib.hid cS; have KT := Lib.hid cT; have KF := Lib.hid cF; have KH := Lib.hid cH
  clear cS cT cF cH
  refine wp_region_quiet_below (by kernel_rfl) (by kernel_rfl) ?_
  quiet_step (fail)
  quiet_step (fail)
  quiet_step (fail)
  quiet_step (exact KS.out _ _)
  quiet_step (fail)
  quiet_step (exact KT.out _ _)
  quiet_step (exact KH.out _ _)
  quiet_step (exact KF.out _ _)
  quiet_step (fail)
  quiet_step (fail)
  refine wpQuiet_nil ?_
  intro _ hw'
  obtain ⟨⟨dq, osq⟩, hw''⟩ := hw'
  subst hw''
  go_wp2
  refine bodyPost_ret (by simp [results, Tryz.results81, go_sem]; rfl) rfl ?_
  exact ⟨rfl, Below.chain HB.out (below_regrown W dq osq)⟩
end Go.Proofs.YtbadibbdoljjhaaGreatDoor

/-
  bigint: Gcd and Lcm of short integers.
-/
namespace Go.Proofs.YtbadibbdoljjhaaGreatDoor
open Go Go.Proofs Go.RowKit

theorem str_itoa {z : Int} (h : (Lib.decDigits z.natAbs).length ≤ 4096) : Str (str (Lib.itoa z)) z := ⟨bytes_str _, h⟩
theorem str_small {z : Int} (h : z.natAbs < 1000000000000000000) : Str (str (Lib.itoa z)) z := str_itoa (by have := decDigits_length_le z.natAbs 18 (by decide) (by omega); omega)

theorem gcd_le (x y : Int) (B : Nat) (hx : x.natAbs < B) (hy : y.natAbs < B) : Int.gcd x y < B := by
  unfold Int.gcd
  by_cases h : x.natAbs = 0
  · rw [h, Nat.gcd_zero_left]; exact hy
  · exact Nat.lt_of_le_of_lt (Nat.gcd_le_left _ (by omega)) hx

set_option maxHeartbeats 1000000 in
theorem gcd_short (s t : ByteArray) (x y : Int) (w : World) (hs : Str s x) (ht : Str t y) (hx : x.natAbs < 1000000000) (hy : y.natAbs < 1000000000) (htab : Lib.TabIs Tryz.prog w "internal/strconv.uint64pow10" .u64 Lib.pow10Tab) :
    Calls Tryz.prog 19 #[.string s, .string t] w fun e w' => e = .returned (.tuple #[.string (str (Lib.itoa (Int.gcd x y : Nat))), .int .i64 0]) ∧ Below w.heap.size w w' := by
  have hg := gcd_le x y 1000000000 hx hy
  have C := compGcd_short s t x y (Int.gcd x y : Nat) w hs ht hx hy (by omega) (by omega) (fun W => gcdS x y W hx hy) htab
  unfold opV at C
  have HC := Lib.hid C; clear C hs ht hx hy htab hg
  generalize str (Lib.itoa (Int.gcd x y : Nat)) = r at *
  go_enter Tryz.func19, Tryz.ntmps19
  go_wp2_with (go_at_call 81; refine HC.out.mono ?_; rintro e w2 ⟨rfl, hb2⟩; refine Hid.out ?_)
  refine Lib.hid ?_
  go_wp2
  refine bodyPost_ret (by simp [results, Tryz.results19, go_sem]; rfl) rfl ?_
  exact ⟨rfl, hb2⟩

set_option maxHeartbeats 2000000 in
theorem lcm_short (s t : ByteArray) (x y : Int) (w : World) (hs : Str s x) (ht : Str t y) (hx : x.natAbs < 1000000000) (hy : y.natAbs < 1000000000) (hx0 : x ≠ 0) (htab : Lib.TabIs Tryz.prog w "internal/strconv.uint64pow10" .u64 Lib.pow10Tab) :
    Calls Tryz.prog 21 #[.string s, .string t] w fun e w' => e = .returned (.tuple #[.string (str (Lib.itoa ((x.fdiv (Int.gcd x y : Nat) * y).natAbs : Int))), .int .i64 0]) ∧ Below w.heap.size w w' := by
  have hT := Lib.tabBelow_of_tabIs htab
  have hg := gcd_le x y 1000000000 hx hy
  have hg0 : ((Int.gcd x y : Nat) : Int) ≠ 0 := by
    have : 0 < Int.gcd x y := Int.gcd_pos_of_ne_zero_left y hx0
    omega
  have C1 := gcd_short s t x y w hs ht hx hy htab
  generalize Int.gcd x y = d at *
  have hd : Str (str (Lib.itoa (d : Int))) d := str_small (by omega)
  have hq := fdiv_le x (d : Int) hg0
  have C2 : ∀ W : World, Below w.heap.size w W → Calls Tryz.prog 65 #[.string s, .string (str (Lib.itoa (d : Int)))] W fun e w' => e = .returned (.tuple #[.string (str (Lib.itoa (x.fdiv d))), .int .i64 0]) ∧ Below W.heap.size W w' := fun W hW => by
    have := quoZ s _ x d W hs hd hg0 (hT.on hW).here
    rwa [resV_small (by omega)] at this
  have hm := mul_bound (x.fdiv d) y (by omega) hy
  have C3 : ∀ W : World, Below w.heap.size w W → Calls Tryz.prog 57 #[.string (str (Lib.itoa (x.fdiv d))), .string t] W fun e w' => e = .returned (.tuple #[.string (str (Lib.itoa (x.fdiv d * y))), .int .i64 0]) ∧ Below W.heap.size W w' := fun W hW => by
    have := mulZ _ t (x.fdiv d) y W (str_small (by omega)) ht (hT.on hW).here
    rwa [resV_small (by omega)] at this
  have C4 := fun W => absZ (str (Lib.itoa (x.fdiv d * y))) _ W (str_small (z := x.fdiv d * y) (by omega))
  have hz := eq48 _ (hd.ne_zero hg0)
  have K1 := Lib.hid C1; have K2 := Lib.hid C2; have K3 := Lib.hid C3; have K4 := Lib.hid C4
  clear C1 C2 C3 C4 hs ht hx hy hx0 htab hT hg hg0 hd hq hm
  generalize str (Lib.itoa ((x.fdiv d * y).natAbs : Int)) = r4 at *
  generalize str (Lib.itoa (x.fdiv d * y)) = r3 at *
  generalize str (Lib.itoa (x.fdiv d)) = r2 at *
  generalize str (Lib.itoa (d : Int)) = r1 at *
  go_enter Tryz.func21, Tryz.ntmps21
  go_wp2_with (go_at_call 19; refine K1.out.mono ?_; rintro e w2 ⟨rfl, hb2⟩; refine Hid.out ?_)
  refine Lib.hid ?_
  go_wp2_with (go_at_call 65; refine (K2.out _ hb2).mono ?_; rintro e w3 ⟨rfl, hb3⟩; refine Hid.out ?_)
  have hb3' := Below.chain hb2 hb3; clear hb2 hb3
  refine Lib.hid ?_
  go_wp2_with (go_at_call 57; refine (K3.out _ hb3').mono ?_; rintro e w4 ⟨rfl, hb4⟩; refine Hid.out ?_)
  have hb4' := Below.chain hb3' hb4; clear hb3' hb4
  refine Lib.hid ?_
  go_wp2_with (go_at_call 64; refine (K4.out _).mono ?_; rintro e w5 ⟨rfl, rfl⟩; refine Hid.out ?_)
  refine Lib.hid ?_
  go_wp2
  refine bodyPost_ret (by simp [results, Tryz.results21, go_sem]; rfl) rfl ?_
  exact ⟨rfl, hb4'⟩
end Go.Proofs.YtbadibbdoljjhaaGreatDoor

/-
  bigint: Pow at canonical integers.
-/
namespace Go.Proofs.YtbadibbdoljjhaaGreatDoor
open Go Go.Proofs Go.RowKit

theorem long_mono {u v : Nat} (h : u ≤ v) (hu : 4096 < (Lib.decDigits u).length) : 4096 < (Lib.decDigits v).length := by
  refine Nat.lt_of_not_le fun hv => ?_
  obtain ⟨k, hk⟩ : ∃ k : Nat, k = 4096 := ⟨_, rfl⟩
  have h1 := dec_lt (allDig_decDigits v)
  rw [dec_decDigits] at h1
  have h2 : v < 10 ^ k := Nat.lt_of_lt_of_le h1 (Nat.pow_le_pow_right (by decide) (by omega))
  have := decDigits_length_le u k (by omega) (Nat.lt_of_le_of_lt h h2)
  omega
theorem resV_long {r : Int} (h : 4096 < (Lib.decDigits r.natAbs).length) : resV r = .tuple #[.string ⟨#[]⟩, .int .i64 10] := by unfold resV; rw [if_pos h]
theorem resV_fits {r : Int} (h : ¬ 4096 < (Lib.decDigits r.natAbs).length) : resV r = .tuple #[.string (str (Lib.itoa r)), .int .i64 0] := by unfold resV; rw [if_neg h]
theorem pow_le_natAbs (x : Int) {j k : Nat} (h : j ≤ k) (hl : 4096 < (Lib.decDigits (x ^ j).natAbs).length) : 4096 < (Lib.decDigits (x ^ k).natAbs).length := by
  by_cases hx : x = 0
  · subst hx
    exfalso
    have : ((0 : Int) ^ j).natAbs ≤ 1 := by
      cases j with
      | zero => decide
      | succ j => rw [Int.pow_succ, Int.mul_zero]; decide
    have := decDigits_length_le ((0 : Int) ^ j).natAbs 1 (by decide) (by omega)
    omega
  · refine long_mono ?_ hl
    rw [Int.natAbs_pow, Int.natAbs_pow]
    exact Nat.pow_le_pow_right (by omega) h

theorem bitLen_le (k : Nat) : ∀ x : Nat, k ≤ 64 → x < 2 ^ k → Lib.bitLen x ≤ k := by
  induction k with
  | zero =>
    intro x _ hx
    have : x = 0 := by simpa using hx
    subst this; decide
  | succ k ih =>
    intro x hk hx
    by_cases h0 : x = 0
    · subst h0; exact Nat.le_trans (by decide : Lib.bitLen 0 ≤ 0) (Nat.zero_le _)
    · have h64 : x < 2 ^ 64 := Nat.lt_of_lt_of_le hx (Nat.pow_le_pow_right (by decide) hk)
      rw [Lib.bitLen_half x h0 h64]
      have := ih (x / 2) (by omega) (by rw [Nat.pow_succ] at hx; omega)
      omega
theorem lt_bitLen (k : Nat) : ∀ x : Nat, k ≤ 64 → x < 2 ^ k → x < 2 ^ Lib.bitLen x := by
  induction k with
  | zero =>
    intro x _ hx
    have : x = 0 := by simpa using hx
    subst this; decide
  | succ k ih =>
    intro x hk hx
    by_cases h0 : x = 0
    · subst h0; decide
    · have h64 : x < 2 ^ 64 := Nat.lt_of_lt_of_le hx (Nat.pow_le_pow_right (by decide) hk)
      rw [Lib.bitLen_half x h0 h64]
      have := ih (x / 2) (by omega) (by rw [Nat.pow_succ] at hx; omega)
      rw [Nat.add_comm, Nat.pow_succ]
      omega

set_option maxHeartbeats 2000000 in
theorem powZ (s : ByteArray) (x : Int) (n : Nat) (w : World) (hs : Str s x) (hn : n ≤ 1048576) (htab : Lib.TabIs Tryz.prog w "internal/strconv.uint64pow10" .u64 Lib.pow10Tab) :
    Calls Tryz.prog 79 #[.string s, .int .i64 n] w fun e w' => e = .returned (resV (x ^ n)) ∧ Below w.heap.size w w' := by
  have hsz := hs.size
  have hT := Lib.tabBelow_of_tabIs htab
  have CC := fun W => check_any s W (by omega)
  rw [hs.err] at CC
  have CL := fun W => Tryz.bits_Len (n : Int) W (by omega) (by omega)
  rw [Int.toNat_natCast] at CL
  have CM : ∀ (W : World) (p q : ByteArray) (y z : Int), Below w.heap.size w W → Str p y → Str q z → Calls Tryz.prog 57 #[.string p, .string q] W fun e w' => e = .returned (resV (y * z)) ∧ Below W.heap.size W w' := fun W p q y z hW hp hq => mulZ p q y z W hp hq (hT.on hW).here
  have KC := Lib.hid CC; have KL := Lib.hid CL; have KM := Lib.hid CM; have HS := Lib.hid hs
  clear CC CL CM hs htab hT hsz
  go_enter Tryz.func79, Tryz.ntmps79
  go_wp2_with (go_at_call 80; refine (KC.out _).mono ?_; rintro e w1 ⟨rfl, rfl⟩; refine Hid.out ?_)
  refine Lib.hid ?_
  go_wp2_with (go_at_call 130; refine (KL.out _).mono ?_; rintro e w1 ⟨rfl, rfl⟩; refine Hid.out ?_)
  have hL1 := bitLen_le 21 n (by decide) (by omega)
  have hL2 := lt_bitLen 21 n (by decide) (by omega)
  generalize Lib.bitLen n = L at *
  have HL2 := Lib.hid hL2; clear hL2
  refine Lib.hid ?_
  go_wp2_with fail
  go_loopw [7, 8, 9] (fun pv ev iv wr => ∃ j : Nat, j ≤ L ∧ iv = .int .i64 ((j : Int) - 1) ∧ Below w1.heap.size w1 wr ∧ ((∃ ps, pv = .string ps ∧ ev = .int .i64 0 ∧ Str ps (x ^ (n / 2 ^ j))) ∨ (pv = .string ⟨#[]⟩ ∧ ev = .int .i64 10 ∧ resV (x ^ n) = .tuple #[.string ⟨#[]⟩, .int .i64 10]))) (fun _ _ iv _ => (intOf iv + 1).toNat)
  case atStart =>
    refine ⟨L, Nat.le_refl _, rfl, Below.refl _ _, .inl ⟨_, rfl, rfl, ?_⟩⟩
    rw [Nat.div_eq_of_lt HL2.out]
    exact ⟨by rw [Int.pow_zero, itoa_nonneg (by decide)]; decide +kernel, by rw [Int.pow_zero]; decide +kernel⟩
  case round =>
    obtain ⟨j, hj, rfl, hbw, hcase⟩ := hrel
    have HB := Lib.hid hbw; clear hbw
    rcases hcase with ⟨ps, rfl, rfl, hps⟩ | ⟨rfl, rfl, hres⟩
    · rcases Nat.eq_zero_or_pos j with rfl | hj1
      · have hres : resV (x ^ n) = .tuple #[.string ps, .int .i64 0] := by
          have h1 := hps.text
          rw [Nat.pow_zero, Nat.div_one] at hps h1
          rw [resV_fits (by have := hps.len; omega), ← h1, str_bytes]
        have HR := Lib.hid hres; clear hres hps
        go_wp2
        refine bodyPost_ret (v := .tuple #[.string ps, .int .i64 0]) (by simp [results, Tryz.results79, go_sem]) rfl ?_
        exact ⟨by rw [HR.out], HB.out⟩
      · obtain ⟨i, rfl⟩ : ∃ i, j = i + 1 := ⟨j - 1, by omega⟩
        have e1 : (((i + 1 : Nat) : Int) - 1) = (i : Int) := by omega
        rw [e1]
        have hdiv : n / 2 ^ i = 2 * (n / 2 ^ (i + 1)) + (n / 2 ^ i) % 2 := by
          have h1 : n / 2 ^ (i + 1) = n / 2 ^ i / 2 := by rw [Nat.pow_succ, Nat.div_div_eq_div_mul]
          rw [h1]
          omega
        have hle : n / 2 ^ i ≤ n := Nat.div_le_self _ _
        have hC := KM.out wr ps ps _ _ HB.out hps hps
        rw [← Int.pow_add] at hC
        generalize hk : n / 2 ^ (i + 1) = k at *
        have HC := Lib.hid hC
        have HD := Lib.hid (And.intro hdiv hle)
        clear hC hps hdiv hle e1
        by_cases hl : 4096 < (Lib.decDigits (x ^ (k + k)).natAbs).length
        · have hres : resV (x ^ n) = .tuple #[.string ⟨#[]⟩, .int .i64 10] := resV_long (pow_le_natAbs x (by have := HD.out; omega) hl)
          rw [resV_long hl] at HC
          have HR := Lib.hid hres; clear hres hl
          go_wp2_with (go_at_call 57; refine HC.out.mono ?_; rintro e w2 ⟨rfl, hb2⟩; refine Hid.out ?_)
          have hb := Below.chain HB.out hb2
          have HB2 := Lib.hid hb; clear hb hb2
          refine Lib.hid ?_
          go_wp2
          go_roundw
          case rel => exact ⟨i, by omega, rfl, HB2.out, .inr ⟨rfl, rfl, HR.out⟩⟩
          case measure => simp [intOf]
        · have hp2 : Str (str (Lib.itoa (x ^ (k + k)))) (x ^ (k + k)) := str_itoa (by omega)
          rw [resV_fits hl] at HC
          generalize str (Lib.itoa (x ^ (k + k))) = p2 at *
          have HP2 := Lib.hid hp2; clear hp2 hl
          go_wp2_with (go_at_call 57; refine HC.out.mono ?_; rintro e w2 ⟨rfl, hb2⟩; refine Hid.out ?_)
          have hb := Below.chain HB.out hb2
          have HB2 := Lib.hid hb; clear hb hb2
          refine Lib.hid ?_
          have hbit : bits BinOp.and IntKind.i64 ((n : Int) / 2 ^ i) 1 = ((n / 2 ^ i % 2 : Nat) : Int) := by
            rw [show ((n : Int) / 2 ^ i) = ((n / 2 ^ i : Nat) : Int) by simp]
            exact and_one _ (by have := HD.out; omega)
          rcases Nat.mod_two_eq_zero_or_one (n / 2 ^ i) with h0 | h1
          · have hb0 : (bits BinOp.and IntKind.i64 ((n : Int) / 2 ^ i) 1 == 1) = false := by rw [hbit, h0]; rfl
            have hst : Str p2 (x ^ (n / 2 ^ i)) := by
              rw [HD.out.1, h0, show 2 * k + 0 = k + k by omega]; exact HP2.out
            have HST := Lib.hid hst
            clear hst h0 hbit
            go_wp2
            go_roundw
            case rel => exact ⟨i, by omega, rfl, HB2.out, .inl ⟨_, rfl, rfl, HST.out⟩⟩
            case measure => simp [intOf]
          · have hb1 : (bits BinOp.and IntKind.i64 ((n : Int) / 2 ^ i) 1 == 1) = true := by rw [hbit, h1]; rfl
            have hC2 := KM.out w2 p2 s _ _ HB2.out HP2.out HS.out
            rw [← Int.pow_succ] at hC2
            have he : n / 2 ^ i = k + k + 1 := by rw [HD.out.1, h1]; omega
            have HE := Lib.hid he; have HC2 := Lib.hid hC2
            clear he hC2 h1 hbit
            by_cases hl2 : 4096 < (Lib.decDigits (x ^ (k + k + 1)).natAbs).length
            · have hres : resV (x ^ n) = .tuple #[.string ⟨#[]⟩, .int .i64 10] := resV_long (pow_le_natAbs x (by have := HD.out; have := HE.out; omega) hl2)
              rw [resV_long hl2] at HC2
              have HR := Lib.hid hres; clear hres hl2
              go_wp2_with (go_at_call 57; refine HC2.out.mono ?_; rintro e w3 ⟨rfl, hb3⟩; refine Hid.out ?_)
              have hb := Below.chain HB2.out hb3
              have HB3 := Lib.hid hb; clear hb hb3
              refine Lib.hid ?_
              go_wp2
              go_roundw
              case rel => exact ⟨i, by omega, rfl, HB3.out, .inr ⟨rfl, rfl, HR.out⟩⟩
              case measure => simp [intOf]
            · have hp3 : Str (str (Lib.itoa (x ^ (k + k + 1)))) (x ^ (n / 2 ^ i)) := by rw [HE.out]; exact str_itoa (by omega)
              rw [resV_fits hl2] at HC2
              generalize str (Lib.itoa (x ^ (k + k + 1))) = p3 at *
              have HP3 := Lib.hid hp3; clear hp3 hl2
              go_wp2_with (go_at_call 57; refine HC2.out.mono ?_; rintro e w3 ⟨rfl, hb3⟩; refine Hid.out ?_)
              have hb := Below.chain HB2.out hb3
              have HB3 := Lib.hid hb; clear hb hb3
              refine Lib.hid ?_
              go_wp2
              go_roundw
              case rel => exact ⟨i, by omega, rfl, HB3.out, .inl ⟨_, rfl, rfl, HP3.out⟩⟩
              case measure => simp [intOf]
    · have HR := Lib.hid hres; clear hres
      rcases Nat.eq_zero_or_pos j with rfl | hj1
      · go_wp2
        refine bodyPost_ret (v := .tuple #[.string ⟨#[]⟩, .int .i64 10]) (by simp [results, Tryz.results79, go_sem]) rfl ?_
        exact ⟨by rw [HR.out], HB.out⟩
      · obtain ⟨i, rfl⟩ : ∃ i, j = i + 1 := ⟨j - 1, by omega⟩
        have e1 : (((i + 1 : Nat) : Int) - 1) = (i : Int) := by omega
        rw [e1]
        go_wp2
        refine bodyPost_ret (v := .tuple #[.string ⟨#[]⟩, .int .i64 10]) (by simp [results, Tryz.results79, go_sem]) rfl ?_
        exact ⟨by rw [HR.out], HB.out⟩
end Go.Proofs.YtbadibbdoljjhaaGreatDoor
