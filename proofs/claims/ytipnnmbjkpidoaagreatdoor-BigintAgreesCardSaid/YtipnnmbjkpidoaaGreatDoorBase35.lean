import Derived.Test.YtipnnmbjkpidoaaGreatDoorBase34
import Derived.Lib.BitFns
import Derived.Lib.RabinKarpLaws

set_option linter.unusedVariables false
/-
  bigint: Gcd and Lcm of short integers.
-/
namespace Go.Proofs.YtipnnmbjkpidoaaGreatDoor
open Go Go.Proofs Go.RowKit

theorem str_itoa {z : Int} (h : (Lib.decDigits z.natAbs).length ≤ 4096) : Str (str (Lib.itoa z)) z := ⟨bytes_str _, h⟩
theorem str_small {z : Int} (h : z.natAbs < 1000000000000000000) : Str (str (Lib.itoa z)) z := str_itoa (by have := decDigits_length_le z.natAbs 18 (by decide) (by omega); omega)

theorem gcd_le (x y : Int) (B : Nat) (hx : x.natAbs < B) (hy : y.natAbs < B) : Int.gcd x y < B := by
  unfold Int.gcd
  by_cases h : x.natAbs = 0
  · rw [h, Nat.gcd_zero_left]; exact hy
  · exact Nat.lt_of_le_of_lt (Nat.gcd_le_left _ (by omega)) hx

set_option maxHeartbeats 1000000 in
theorem gcd_short (s t : ByteArray) (x y : Int) (w : World) (hs : Str s x) (ht : Str t y) (hx : x.natAbs < 1000000000) (hy : y.natAbs < 1000000000) (htab : Lib.TabIs Tryz.prog w "internal/strconv.uint64pow10" .u64 Lib.pow10Tab) :
    Calls Tryz.prog 44 #[.string s, .string t] w fun e w' => e = .returned (.tuple #[.string (str (Lib.itoa (Int.gcd x y : Nat))), .int .i64 0]) ∧ Below w.heap.size w w' := by
  have hg := gcd_le x y 1000000000 hx hy
  have C := compGcd_short s t x y (Int.gcd x y : Nat) w hs ht hx hy (by omega) (by omega) (fun W => gcdS x y W hx hy) htab
  unfold opV at C
  have HC := Lib.hid C; clear C hs ht hx hy htab hg
  generalize str (Lib.itoa (Int.gcd x y : Nat)) = r at *
  go_enter Tryz.func44, Tryz.ntmps44
  go_wp2_with (go_at_call 77; refine HC.out.mono ?_; rintro e w2 ⟨rfl, hb2⟩; refine Hid.out ?_)
  refine Lib.hid ?_
  go_wp2
  refine bodyPost_ret (by simp [results, Tryz.results44, go_sem]; rfl) rfl ?_
  exact ⟨rfl, hb2⟩

set_option maxHeartbeats 2000000 in
theorem lcm_short (s t : ByteArray) (x y : Int) (w : World) (hs : Str s x) (ht : Str t y) (hx : x.natAbs < 1000000000) (hy : y.natAbs < 1000000000) (hx0 : x ≠ 0) (htab : Lib.TabIs Tryz.prog w "internal/strconv.uint64pow10" .u64 Lib.pow10Tab) :
    Calls Tryz.prog 46 #[.string s, .string t] w fun e w' => e = .returned (.tuple #[.string (str (Lib.itoa ((x.fdiv (Int.gcd x y : Nat) * y).natAbs : Int))), .int .i64 0]) ∧ Below w.heap.size w w' := by
  have hT := Lib.tabBelow_of_tabIs htab
  have hg := gcd_le x y 1000000000 hx hy
  have hg0 : ((Int.gcd x y : Nat) : Int) ≠ 0 := by
    have : 0 < Int.gcd x y := Int.gcd_pos_of_ne_zero_left y hx0
    omega
  have C1 := gcd_short s t x y w hs ht hx hy htab
  generalize Int.gcd x y = d at *
  have hd : Str (str (Lib.itoa (d : Int))) d := str_small (by omega)
  have hq := fdiv_le x (d : Int) hg0
  have C2 : ∀ W : World, Below w.heap.size w W → Calls Tryz.prog 40 #[.string s, .string (str (Lib.itoa (d : Int)))] W fun e w' => e = .returned (.tuple #[.string (str (Lib.itoa (x.fdiv d))), .int .i64 0]) ∧ Below W.heap.size W w' := fun W hW => by
    have := quoZ s _ x d W hs hd hg0 (hT.on hW).here
    rwa [resV_small (by omega)] at this
  have hm := mul_bound (x.fdiv d) y (by omega) hy
  have C3 : ∀ W : World, Below w.heap.size w W → Calls Tryz.prog 38 #[.string (str (Lib.itoa (x.fdiv d))), .string t] W fun e w' => e = .returned (.tuple #[.string (str (Lib.itoa (x.fdiv d * y))), .int .i64 0]) ∧ Below W.heap.size W w' := fun W hW => by
    have := mulZ _ t (x.fdiv d) y W (str_small (by omega)) ht (hT.on hW).here
    rwa [resV_small (by omega)] at this
  have C4 := fun W => absZ (str (Lib.itoa (x.fdiv d * y))) _ W (str_small (z := x.fdiv d * y) (by omega))
  have hz := eq48 _ (hd.ne_zero hg0)
  have K1 := Lib.hid C1; have K2 := Lib.hid C2; have K3 := Lib.hid C3; have K4 := Lib.hid C4
  clear C1 C2 C3 C4 hs ht hx hy hx0 htab hT hg hg0 hd hq hm
  generalize str (Lib.itoa ((x.fdiv d * y).natAbs : Int)) = r4 at *
  generalize str (Lib.itoa (x.fdiv d * y)) = r3 at *
  generalize str (Lib.itoa (x.fdiv d)) = r2 at *
  generalize str (Lib.itoa (d : Int)) = r1 at *
  go_enter Tryz.func46, Tryz.ntmps46
  go_wp2_with (go_at_call 44; refine K1.out.mono ?_; rintro e w2 ⟨rfl, hb2⟩; refine Hid.out ?_)
  refine Lib.hid ?_
  go_wp2_with (go_at_call 40; refine (K2.out _ hb2).mono ?_; rintro e w3 ⟨rfl, hb3⟩; refine Hid.out ?_)
  have hb3' := Below.chain hb2 hb3; clear hb2 hb3
  refine Lib.hid ?_
  go_wp2_with (go_at_call 38; refine (K3.out _ hb3').mono ?_; rintro e w4 ⟨rfl, hb4⟩; refine Hid.out ?_)
  have hb4' := Below.chain hb3' hb4; clear hb3' hb4
  refine Lib.hid ?_
  go_wp2_with (go_at_call 21; refine (K4.out _).mono ?_; rintro e w5 ⟨rfl, rfl⟩; refine Hid.out ?_)
  refine Lib.hid ?_
  go_wp2
  refine bodyPost_ret (by simp [results, Tryz.results46, go_sem]; rfl) rfl ?_
  exact ⟨rfl, hb4'⟩
end Go.Proofs.YtipnnmbjkpidoaaGreatDoor

/-
  bigint: Pow at canonical integers.
-/
namespace Go.Proofs.YtipnnmbjkpidoaaGreatDoor
open Go Go.Proofs Go.RowKit

theorem long_mono {u v : Nat} (h : u ≤ v) (hu : 4096 < (Lib.decDigits u).length) : 4096 < (Lib.decDigits v).length := by
  refine Nat.lt_of_not_le fun hv => ?_
  obtain ⟨k, hk⟩ : ∃ k : Nat, k = 4096 := ⟨_, rfl⟩
  have h1 := dec_lt (allDig_decDigits v)
  rw [dec_decDigits] at h1
  have h2 : v < 10 ^ k := Nat.lt_of_lt_of_le h1 (Nat.pow_le_pow_right (by decide) (by omega))
  have := decDigits_length_le u k (by omega) (Nat.lt_of_le_of_lt h h2)
  omega
theorem resV_long {r : Int} (h : 4096 < (Lib.decDigits r.natAbs).length) : resV r = .tuple #[.string ⟨#[]⟩, .int .i64 10] := by unfold resV; rw [if_pos h]
theorem resV_fits {r : Int} (h : ¬ 4096 < (Lib.decDigits r.natAbs).length) : resV r = .tuple #[.string (str (Lib.itoa r)), .int .i64 0] := by unfold resV; rw [if_neg h]
theorem pow_le_natAbs (x : Int) {j k : Nat} (h : j ≤ k) (hl : 4096 < (Lib.decDigits (x ^ j).natAbs).length) : 4096 < (Lib.decDigits (x ^ k).natAbs).length := by
  by_cases hx : x = 0
  · subst hx
    exfalso
    have : ((0 : Int) ^ j).natAbs ≤ 1 := by
      cases j with
      | zero => decide
      | succ j => rw [Int.pow_succ, Int.mul_zero]; decide
    have := decDigits_length_le ((0 : Int) ^ j).natAbs 1 (by decide) (by omega)
    omega
  · refine long_mono ?_ hl
    rw [Int.natAbs_pow, Int.natAbs_pow]
    exact Nat.pow_le_pow_right (by omega) h

theorem bitLen_le (k : Nat) : ∀ x : Nat, k ≤ 64 → x < 2 ^ k → Lib.bitLen x ≤ k := by
  induction k with
  | zero =>
    intro x _ hx
    have : x = 0 := by simpa using hx
    subst this; decide
  | succ k ih =>
    intro x hk hx
    by_cases h0 : x = 0
    · subst h0; exact Nat.le_trans (by decide : Lib.bitLen 0 ≤ 0) (Nat.zero_le _)
    · have h64 : x < 2 ^ 64 := Nat.lt_of_lt_of_le hx (Nat.pow_le_pow_right (by decide) hk)
      rw [Lib.bitLen_half x h0 h64]
      have := ih (x / 2) (by omega) (by rw [Nat.pow_succ] at hx; omega)
      omega
theorem lt_bitLen (k : Nat) : ∀ x : Nat, k ≤ 64 → x < 2 ^ k → x < 2 ^ Lib.bitLen x := by
  induction k with
  | zero =>
    intro x _ hx
    have : x = 0 := by simpa using hx
    subst this; decide
  | succ k ih =>
    intro x hk hx
    by_cases h0 : x = 0
    · subst h0; decide
    · have h64 : x < 2 ^ 64 := Nat.lt_of_lt_of_le hx (Nat.pow_le_pow_right (by decide) hk)
      rw [Lib.bitLen_half x h0 h64]
      have := ih (x / 2) (by omega) (by rw [Nat.pow_succ] at hx; omega)
      rw [Nat.add_comm, Nat.pow_succ]
      omega

set_option maxHeartbeats 2000000 in
theorem powZ (s : ByteArray) (x : Int) (n : Nat) (w : World) (hs : Str s x) (hn : n ≤ 1048576) (htab : Lib.TabIs Tryz.prog w "internal/strconv.uint64pow10" .u64 Lib.pow10Tab) :
    Calls Tryz.prog 51 #[.string s, .int .i64 n] w fun e w' => e = .returned (resV (x ^ n)) ∧ Below w.heap.size w w' := by
  have hsz := hs.size
  have hT := Lib.tabBelow_of_tabIs htab
  have CC := fun W => check_any s W (by omega)
  rw [hs.err] at CC
  have CL := fun W => Tryz.bits_Len (n : Int) W (by omega) (by omega)
  rw [Int.toNat_natCast] at CL
  have CM : ∀ (W : World) (p q : ByteArray) (y z : Int), Below w.heap.size w W → Str p y → Str q z → Calls Tryz.prog 38 #[.string p, .string q] W fun e w' => e = .returned (resV (y * z)) ∧ Below W.heap.size W w' := fun W p q y z hW hp hq => mulZ p q y z W hp hq (hT.on hW).here
  have KC := Lib.hid CC; have KL := Lib.hid CL; have KM := Lib.hid CM; have HS := Lib.hid hs
  clear CC CL CM hs htab hT hsz
  go_enter Tryz.func51, Tryz.ntmps51
  go_wp2_with (go_at_call 24; refine (KC.out _).mono ?_; rintro e w1 ⟨rfl, rfl⟩; refine Hid.out ?_)
  refine Lib.hid ?_
  go_wp2_with (go_at_call 102; refine (KL.out _).mono ?_; rintro e w1 ⟨rfl, rfl⟩; refine Hid.out ?_)
  have hL1 := bitLen_le 21 n (by decide) (by omega)
  have hL2 := lt_bitLen 21 n (by decide) (by omega)
  generalize Lib.bitLen n = L at *
  have HL2 := Lib.hid hL2; clear hL2
  refine Lib.hid ?_
  go_wp2_with fail
  go_loopw [7, 8, 9] (fun pv ev iv wr => ∃ j : Nat, j ≤ L ∧ iv = .int .i64 ((j : Int) - 1) ∧ Below w1.heap.size w1 wr ∧ ((∃ ps, pv = .string ps ∧ ev = .int .i64 0 ∧ Str ps (x ^ (n / 2 ^ j))) ∨ (pv = .string ⟨#[]⟩ ∧ ev = .int .i64 10 ∧ resV (x ^ n) = .tuple #[.string ⟨#[]⟩, .int .i64 10]))) (fun _ _ iv _ => (intOf iv + 1).toNat)
  case atStart =>
    refine ⟨L, Nat.le_refl _, rfl, Below.refl _ _, .inl ⟨_, rfl, rfl, ?_⟩⟩
    rw [Nat.div_eq_of_lt HL2.out]
    exact ⟨by rw [Int.pow_zero, itoa_nonneg (by decide)]; decide +kernel, by rw [Int.pow_zero]; decide +kernel⟩
  case round =>
    obtain ⟨j, hj, rfl, hbw, hcase⟩ := hrel
    have HB := Lib.hid hbw; clear hbw
    rcases hcase with ⟨ps, rfl, rfl, hps⟩ | ⟨rfl, rfl, hres⟩
    · rcases Nat.eq_zero_or_pos j with rfl | hj1
      · have hres : resV (x ^ n) = .tuple #[.string ps, .int .i64 0] := by
          have h1 := hps.text
          rw [Nat.pow_zero, Nat.div_one] at hps h1
          rw [resV_fits (by have := hps.len; omega), ← h1, str_bytes]
        have HR := Lib.hid hres; clear hres hps
        go_wp2
        refine bodyPost_ret (v := .tuple #[.string ps, .int .i64 0]) (by simp [results, Tryz.results51, go_sem]) rfl ?_
        exact ⟨by rw [HR.out], HB.out⟩
      · obtain ⟨i, rfl⟩ : ∃ i, j = i + 1 := ⟨j - 1, by omega⟩
        have e1 : (((i + 1 : Nat) : Int) - 1) = (i : Int) := by omega
        rw [e1]
        have hdiv : n / 2 ^ i = 2 * (n / 2 ^ (i + 1)) + (n / 2 ^ i) % 2 := by
          have h1 : n / 2 ^ (i + 1) = n / 2 ^ i / 2 := by rw [Nat.pow_succ, Nat.div_div_eq_div_mul]
          rw [h1]
          omega
        have hle : n / 2 ^ i ≤ n := Nat.div_le_self _ _
        have hC := KM.out wr ps ps _ _ HB.out hps hps
        rw [← Int.pow_add] at hC
        generalize hk : n / 2 ^ (i + 1) = k at *
        have HC := Lib.hid hC
        have HD := Lib.hid (And.intro hdiv hle)
        clear hC hps hdiv hle e1
        by_cases hl : 4096 < (Lib.decDigits (x ^ (k + k)).natAbs).length
        · have hres : resV (x ^ n) = .tuple #[.string ⟨#[]⟩, .int .i64 10] := resV_long (pow_le_natAbs x (by have := HD.out; omega) hl)
          rw [resV_long hl] at HC
          have HR := Lib.hid hres; clear hres hl
          go_wp2_with (go_at_call 38; refine HC.out.mono ?_; rintro e w2 ⟨rfl, hb2⟩; refine Hid.out ?_)
          have hb := Below.chain HB.out hb2
          have HB2 := Lib.hid hb; clear hb hb2
          refine Lib.hid ?_
          go_wp2
          go_roundw
          case rel => exact ⟨i, by omega, rfl, HB2.out, .inr ⟨rfl, rfl, HR.out⟩⟩
          case measure => simp [intOf]
        · have hp2 : Str (str (Lib.itoa (x ^ (k + k)))) (x ^ (k + k)) := str_itoa (by omega)
          rw [resV_fits hl] at HC
          generalize str (Lib.itoa (x ^ (k + k))) = p2 at *
          have HP2 := Lib.hid hp2; clear hp2 hl
          go_wp2_with (go_at_call 38; refine HC.out.mono ?_; rintro e w2 ⟨rfl, hb2⟩; refine Hid.out ?_)
          have hb := Below.chain HB.out hb2
          have HB2 := Lib.hid hb; clear hb hb2
          refine Lib.hid ?_
          have hbit : bits BinOp.and IntKind.i64 ((n : Int) / 2 ^ i) 1 = ((n / 2 ^ i % 2 : Nat) : Int) := by
            rw [show ((n : Int) / 2 ^ i) = ((n / 2 ^ i : Nat) : Int) by simp]
            exact and_one _ (by have := HD.out; omega)
          rcases Nat.mod_two_eq_zero_or_one (n / 2 ^ i) with h0 | h1
          · have hb0 : (bits BinOp.and IntKind.i64 ((n : Int) / 2 ^ i) 1 == 1) = false := by rw [hbit, h0]; rfl
            have hst : Str p2 (x ^ (n / 2 ^ i)) := by
              rw [HD.out.1, h0, show 2 * k + 0 = k + k by omega]; exact HP2.out
            have HST := Lib.hid hst
            clear hst h0 hbit
            go_wp2
            go_roundw
            case rel => exact ⟨i, by omega, rfl, HB2.out, .inl ⟨_, rfl, rfl, HST.out⟩⟩
            case measure => simp [intOf]
          · have hb1 : (bits BinOp.and IntKind.i64 ((n : Int) / 2 ^ i) 1 == 1) = true := by rw [hbit, h1]; rfl
            have hC2 := KM.out w2 p2 s _ _ HB2.out HP2.out HS.out
            rw [← Int.pow_succ] at hC2
            have he : n / 2 ^ i = k + k + 1 := by rw [HD.out.1, h1]; omega
            have HE := Lib.hid he; have HC2 := Lib.hid hC2
            clear he hC2 h1 hbit
            by_cases hl2 : 4096 < (Lib.decDigits (x ^ (k + k + 1)).natAbs).length
            · have hres : resV (x ^ n) = .tuple #[.string ⟨#[]⟩, .int .i64 10] := resV_long (pow_le_natAbs x (by have := HD.out; have := HE.out; omega) hl2)
              rw [resV_long hl2] at HC2
              have HR := Lib.hid hres; clear hres hl2
              go_wp2_with (go_at_call 38; refine HC2.out.mono ?_; rintro e w3 ⟨rfl, hb3⟩; refine Hid.out ?_)
              have hb := Below.chain HB2.out hb3
              have HB3 := Lib.hid hb; clear hb hb3
              refine Lib.hid ?_
              go_wp2
              go_roundw
              case rel => exact ⟨i, by omega, rfl, HB3.out, .inr ⟨rfl, rfl, HR.out⟩⟩
              case measure => simp [intOf]
            · have hp3 : Str (str (Lib.itoa (x ^ (k + k + 1)))) (x ^ (n / 2 ^ i)) := by rw [HE.out]; exact str_itoa (by omega)
              rw [resV_fits hl2] at HC2
              generalize str (Lib.itoa (x ^ (k + k + 1))) = p3 at *
              have HP3 := Lib.hid hp3; clear hp3 hl2
              go_wp2_with (go_at_call 38; refine HC2.out.mono ?_; rintro e w3 ⟨rfl, hb3⟩; refine Hid.out ?_)
              have hb := Below.chain HB2.out hb3
              have HB3 := Lib.hid hb; clear hb hb3
              refine Lib.hid ?_
              go_wp2
              go_roundw
              case rel => exact ⟨i, by omega, rfl, HB3.out, .inl ⟨_, rfl, rfl, HP3.out⟩⟩
              case measure => simp [intOf]
    · have HR := Lib.hid hres; clear hres
      rcases Nat.eq_zero_or_pos j with rfl | hj1
      · go_wp2
        refine bodyPost_ret (v := .tuple #[.string ⟨#[]⟩, .int .i64 10]) (by simp [results, Tryz.results51, go_sem]) rfl ?_
        exact ⟨by rw [HR.out], HB.out⟩
      · obtain ⟨i, rfl⟩ : ∃ i, j = i + 1 := ⟨j - 1, by omega⟩
        have e1 : (((i + 1 : Nat) : Int) - 1) = (i : Int) := by omega
        rw [e1]
        go_wp2
        refine bodyPost_ret (v := .tuple #[.string ⟨#[]⟩, .int .i64 10]) (by simp [results, Tryz.results51, go_sem]) rfl ?_
        exact ⟨by rw [HR.out], HB.out⟩
end Go.Proofs.YtipnnmbjkpidoaaGreatDoor
