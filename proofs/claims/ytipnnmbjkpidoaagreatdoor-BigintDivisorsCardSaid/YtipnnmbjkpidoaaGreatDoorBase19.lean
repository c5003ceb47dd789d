import Derived.Test.YtipnnmbjkpidoaaGreatDoorBase18
import Derived.Lib.BitFns
import Derived.Lib.RabinKarpLaws
import Derived.Deep.CutRange
import Derived.Test.YtipnnmbjkpidoaaGreatDoorBase2
import Derived.Test.YtipnnmbjkpidoaaGreatDoorBase15

set_option linter.unusedVariables false
/-
  bigint: Gcd and Lcm of short integers.
-/
namespace Go.Proofs.YtipnnmbjkpidoaaGreatDoor
open Go Go.Proofs Go.RowKit

theorem str_itoa {z : Int} (h : (Lib.decDigits z.natAbs).length ≤ 4096) : Str (str (Lib.itoa z)) z := ⟨bytes_str _, h⟩
theorem str_small {z : Int} (h : z.natAbs < 1000000000000000000) : Str (str (Lib.itoa z)) z := str_itoa (by have := decDigits_length_le z.natAbs 18 (by decide) (by omega); omega)

theorem gcd_le (x y : Int) (B : Nat) (hx : x.natAbs < B) (hy : y.natAbs < B) : Int.gcd x y < B := by
  unfold Int.gcd
  by_cases h : x.natAbs = 0
  · rw [h, Nat.gcd_zero_left]; exact hy
  · exact Nat.lt_of_le_of_lt (Nat.gcd_le_left _ (by omega)) hx

set_option maxHeartbeats 1000000 in
theorem gcd_short (s t : ByteArray) (x y : Int) (w : World) (hs : Str s x) (ht : Str t y) (hx : x.natAbs < 1000000000) (hy : y.natAbs < 1000000000) (htab : Lib.TabIs Tryz.prog w "internal/strconv.uint64pow10" .u64 Lib.pow10Tab) :
    Calls Tryz.prog 44 #[.string s, .string t] w fun e w' => e = .returned (.tuple #[.string (str (Lib.itoa (Int.gcd x y : Nat))), .int .i64 0]) ∧ Below w.heap.size w w' := by
  have hg := gcd_le x y 1000000000 hx hy
  have C := compGcd_short s t x y (Int.gcd x y : Nat) w hs ht hx hy (by omega) (by omega) (fun W => gcdS x y W hx hy) htab
  unfold opV at C
  have HC := Lib.hid C; clear C hs ht hx hy htab hg
  generalize str (Lib.itoa (Int.gcd x y : Nat)) = r at *
  go_enter Tryz.func44, Tryz.ntmps44
  go_wp2_with (go_at_call 77; refine HC.out.mono ?_; rintro e w2 ⟨rfl, hb2⟩; refine Hid.out ?_)
  refine Lib.hid ?_
  go_wp2
  refine bodyPost_ret (by simp [results, Tryz.results44, go_sem]; rfl) rfl ?_
  exact ⟨rfl, hb2⟩

set_option maxHeartbeats 2000000 in
theorem lcm_short (s t : ByteArray) (x y : Int) (w : World) (hs : Str s x) (ht : Str t y) (hx : x.natAbs < 1000000000) (hy : y.natAbs < 1000000000) (hx0 : x ≠ 0) (htab : Lib.TabIs Tryz.prog w "internal/strconv.uint64pow10" .u64 Lib.pow10Tab) :
    Calls Tryz.prog 46 #[.string s, .string t] w fun e w' => e = .returned (.tuple #[.string (str (Lib.itoa ((x.fdiv (Int.gcd x y : Nat) * y).natAbs : Int))), .int .i64 0]) ∧ Below w.heap.size w w' := by
  have hT := Lib.tabBelow_of_tabIs htab
  have hg := gcd_le x y 1000000000 hx hy
  have hg0 : ((Int.gcd x y : Nat) : Int) ≠ 0 := by
    have : 0 < Int.gcd x y := Int.gcd_pos_of_ne_zero_left y hx0
    omega
  have C1 := gcd_short s t x y w hs ht hx hy htab
  generalize Int.gcd x y = d at *
  have hd : Str (str (Lib.itoa (d : Int))) d := str_small (by omega)
  have hq := fdiv_le x (d : Int) hg0
  have C2 : ∀ W : World, Below w.heap.size w W → Calls Tryz.prog 40 #[.string s, .string (str (Lib.itoa (d : Int)))] W fun e w' => e = .returned (.tuple #[.string (str (Lib.itoa (x.fdiv d))), .int .i64 0]) ∧ Below W.heap.size W w' := fun W hW => by
    have := quoZ s _ x d W hs hd hg0 (hT.on hW).here
    rwa [resV_small (by omega)] at this
  have hm := mul_bound (x.fdiv d) y (by omega) hy
  have C3 : ∀ W : World, Below w.heap.size w W → Calls Tryz.prog 38 #[.string (str (Lib.itoa (x.fdiv d))), .string t] W fun e w' => e = .returned (.tuple #[.string (str (Lib.itoa (x.fdiv d * y))), .int .i64 0]) ∧ Below W.heap.size W w' := fun W hW => by
    have := mulZ _ t (x.fdiv d) y W (str_small (by omega)) ht (hT.on hW).here
    rwa [resV_small (by omega)] at this
  have C4 := fun W => absZ (str (Lib.itoa (x.fdiv d * y))) _ W (str_small (z := x.fdiv d * y) (by omega))
  have hz := eq48 _ (hd.ne_zero hg0)
  have K1 := Lib.hid C1; have K2 := Lib.hid C2; have K3 := Lib.hid C3; have K4 := Lib.hid C4
  clear C1 C2 C3 C4 hs ht hx hy hx0 htab hT hg hg0 hd hq hm
  generalize str (Lib.itoa ((x.fdiv d * y).natAbs : Int)) = r4 at *
  generalize str (Lib.itoa (x.fdiv d * y)) = r3 at *
  generalize str (Lib.itoa (x.fdiv d)) = r2 at *
  generalize str (Lib.itoa (d : Int)) = r1 at *
  go_enter Tryz.func46, Tryz.ntmps46
  go_wp2_with (go_at_call 44; refine K1.out.mono ?_; rintro e w2 ⟨rfl, hb2⟩; refine Hid.out ?_)
  refine Lib.hid ?_
  go_wp2_with (go_at_call 40; refine (K2.out _ hb2).mono ?_; rintro e w3 ⟨rfl, hb3⟩; refine Hid.out ?_)
  have hb3' := Below.chain hb2 hb3; clear hb2 hb3
  refine Lib.hid ?_
  go_wp2_with (go_at_call 38; refine (K3.out _ hb3').mono ?_; rintro e w4 ⟨rfl, hb4⟩; refine Hid.out ?_)
  have hb4' := Below.chain hb3' hb4; clear hb3' hb4
  refine Lib.hid ?_
  go_wp2_with (go_at_call 21; refine (K4.out _).mono ?_; rintro e w5 ⟨rfl, rfl⟩; refine Hid.out ?_)
  refine Lib.hid ?_
  go_wp2
  refine bodyPost_ret (by simp [results, Tryz.results46, go_sem]; rfl) rfl ?_
  exact ⟨rfl, hb4'⟩
end Go.Proofs.YtipnnmbjkpidoaaGreatDoor

/-
  bigint: Pow at canonical integers.
-/
namespace Go.Proofs.YtipnnmbjkpidoaaGreatDoor
open Go Go.Proofs Go.RowKit

theorem long_mono {u v : Nat} (h : u ≤ v) (hu : 4096 < (Lib.decDigits u).length) : 4096 < (Lib.decDigits v).length := by
  refine Nat.lt_of_not_le fun hv => ?_
  obtain ⟨k, hk⟩ : ∃ k : Nat, k = 4096 := ⟨_, rfl⟩
  have h1 := dec_lt (allDig_decDigits v)
  rw [dec_decDigits] at h1
  have h2 : v < 10 ^ k := Nat.lt_of_lt_of_le h1 (Nat.pow_le_pow_right (by decide) (by omega))
  have := decDigits_length_le u k (by omega) (Nat.lt_of_le_of_lt h h2)
  omega
theorem resV_long {r : Int} (h : 4096 < (Lib.decDigits r.natAbs).length) : resV r = .tuple #[.string ⟨#[]⟩, .int .i64 10] := by unfold resV; rw [if_pos h]
theorem resV_fits {r : Int} (h : ¬ 4096 < (Lib.decDigits r.natAbs).length) : resV r = .tuple #[.string (str (Lib.itoa r)), .int .i64 0] := by unfold resV; rw [if_neg h]
theorem pow_le_natAbs (x : Int) {j k : Nat} (h : j ≤ k) (hl : 4096 < (Lib.decDigits (x ^ j).natAbs).length) : 4096 < (Lib.decDigits (x ^ k).natAbs).length := by
  by_cases hx : x = 0
  · subst hx
    exfalso
    have : ((0 : Int) ^ j).natAbs ≤ 1 := by
      cases j with
      | zero => decide
      | succ j => rw [Int.pow_succ, Int.mul_zero]; decide
    have := decDigits_length_le ((0 : Int) ^ j).natAbs 1 (by decide) (by omega)
    omega
  · refine long_mono ?_ hl
    rw [Int.natAbs_pow, Int.natAbs_pow]
    exact Nat.pow_le_pow_right (by omega) h

theorem bitLen_le (k : Nat) : ∀ x : Nat, k ≤ 64 → x < 2 ^ k → Lib.bitLen x ≤ k := by
  induction k with
  | zero =>
    intro x _ hx
    have : x = 0 := by simpa using hx
    subst this; decide
  | succ k ih =>
    intro x hk hx
    by_cases h0 : x = 0
    · subst h0; exact Nat.le_trans (by decide : Lib.bitLen 0 ≤ 0) (Nat.zero_le _)
    · have h64 : x < 2 ^ 64 := Nat.lt_of_lt_of_le hx (Nat.pow_le_pow_right (by decide) hk)
      rw [Lib.bitLen_half x h0 h64]
      have := ih (x / 2) (by omega) (by rw [Nat.pow_succ] at hx; omega)
      omega
theorem lt_bitLen (k : Nat) : ∀ x : Nat, k ≤ 64 → x < 2 ^ k → x < 2 ^ Lib.bitLen x := by
  induction k with
  | zero =>
    intro x _ hx
    have : x = 0 := by simpa using hx
    subst this; decide
  | succ k ih =>
    intro x hk hx
    by_cases h0 : x = 0
    · subst h0; decide
    · have h64 : x < 2 ^ 64 := Nat.lt_of_lt_of_le hx (Nat.pow_le_pow_right (by decide) hk)
      rw [Lib.bitLen_half x h0 h64]
      have := ih (x / 2) (by omega) (by rw [Nat.pow_succ] at hx; omega)
      rw [Nat.add_comm, Nat.pow_succ]
      omega

set_option maxHeartbeats 2000000 in
theorem powZ (s : ByteArray) (x : Int) (n : Nat) (w : World) (hs : Str s x) (hn : n ≤ 1048576) (htab : Lib.TabIs Tryz.prog w "internal/strconv.uint64pow10" .u64 Lib.pow10Tab) :
    Calls Tryz.prog 51 #[.string s, .int .i64 n] w fun e w' => e = .returned (resV (x ^ n)) ∧ Below w.heap.size w w' := by
  have hsz := hs.size
  have hT := Lib.tabBelow_of_tabIs htab
  have CC := fun W => check_any s W (by omega)
  rw [hs.err] at CC
  have CL := fun W => Tryz.bits_Len (n : Int) W (by omega) (by omega)
  rw [Int.toNat_natCast] at CL
  have CM : ∀ (W : World) (p q : ByteArray) (y z : Int), Below w.heap.size w W → Str p y → Str q z → Calls Tryz.prog 38 #[.string p, .string q] W fun e w' => e = .returned (resV (y * z)) ∧ Below W.heap.size W w' := fun W p q y z hW hp hq => mulZ p q y z W hp hq (hT.on hW).here
  have KC := Lib.hid CC; have KL := Lib.hid CL; have KM := Lib.hid CM; have HS := Lib.hid hs
  clear CC CL CM hs htab hT hsz
  go_enter Tryz.func51, Tryz.ntmps51
  go_wp2_with (go_at_call 24; refine (KC.out _).mono ?_; rintro e w1 ⟨rfl, rfl⟩; refine Hid.out ?_)
  refine Lib.hid ?_
  go_wp2_with (go_at_call 102; refine (KL.out _).mono ?_; rintro e w1 ⟨rfl, rfl⟩; refine Hid.out ?_)
  have hL1 := bitLen_le 21 n (by decide) (by omega)
  have hL2 := lt_bitLen 21 n (by decide) (by omega)
  generalize Lib.bitLen n = L at *
  have HL2 := Lib.hid hL2; clear hL2
  refine Lib.hid ?_
  go_wp2_with fail
  go_loopw [7, 8, 9] (fun pv ev iv wr => ∃ j : Nat, j ≤ L ∧ iv = .int .i64 ((j : Int) - 1) ∧ Below w1.heap.size w1 wr ∧ ((∃ ps, pv = .string ps ∧ ev = .int .i64 0 ∧ Str ps (x ^ (n / 2 ^ j))) ∨ (pv = .string ⟨#[]⟩ ∧ ev = .int .i64 10 ∧ resV (x ^ n) = .tuple #[.string ⟨#[]⟩, .int .i64 10]))) (fun _ _ iv _ => (intOf iv + 1).toNat)
  case atStart =>
    refine ⟨L, Nat.le_refl _, rfl, Below.refl _ _, .inl ⟨_, rfl, rfl, ?_⟩⟩
    rw [Nat.div_eq_of_lt HL2.out]
    exact ⟨by rw [Int.pow_zero, itoa_nonneg (by decide)]; decide +kernel, by rw [Int.pow_zero]; decide +kernel⟩
  case round =>
    obtain ⟨j, hj, rfl, hbw, hcase⟩ := hrel
    have HB := Lib.hid hbw; clear hbw
    rcases hcase with ⟨ps, rfl, rfl, hps⟩ | ⟨rfl, rfl, hres⟩
    · rcases Nat.eq_zero_or_pos j with rfl | hj1
      · have hres : resV (x ^ n) = .tuple #[.string ps, .int .i64 0] := by
          have h1 := hps.text
          rw [Nat.pow_zero, Nat.div_one] at hps h1
          rw [resV_fits (by have := hps.len; omega), ← h1, str_bytes]
        have HR := Lib.hid hres; clear hres hps
        go_wp2
        refine bodyPost_ret (v := .tuple #[.string ps, .int .i64 0]) (by simp [results, Tryz.results51, go_sem]) rfl ?_
        exact ⟨by rw [HR.out], HB.out⟩
      · obtain ⟨i, rfl⟩ : ∃ i, j = i + 1 := ⟨j - 1, by omega⟩
        have e1 : (((i + 1 : Nat) : Int) - 1) = (i : Int) := by omega
        rw [e1]
        have hdiv : n / 2 ^ i = 2 * (n / 2 ^ (i + 1)) + (n / 2 ^ i) % 2 := by
          have h1 : n / 2 ^ (i + 1) = n / 2 ^ i / 2 := by rw [Nat.pow_succ, Nat.div_div_eq_div_mul]
          rw [h1]
          omega
        have hle : n / 2 ^ i ≤ n := Nat.div_le_self _ _
        have hC := KM.out wr ps ps _ _ HB.out hps hps
        rw [← Int.pow_add] at hC
        generalize hk : n / 2 ^ (i + 1) = k at *
        have HC := Lib.hid hC
        have HD := Lib.hid (And.intro hdiv hle)
        clear hC hps hdiv hle e1
        by_cases hl : 4096 < (Lib.decDigits (x ^ (k + k)).natAbs).length
        · have hres : resV (x ^ n) = .tuple #[.string ⟨#[]⟩, .int .i64 10] := resV_long (pow_le_natAbs x (by have := HD.out; omega) hl)
          rw [resV_long hl] at HC
          have HR := Lib.hid hres; clear hres hl
          go_wp2_with (go_at_call 38; refine HC.out.mono ?_; rintro e w2 ⟨rfl, hb2⟩; refine Hid.out ?_)
          have hb := Below.chain HB.out hb2
          have HB2 := Lib.hid hb; clear hb hb2
          refine Lib.hid ?_
          go_wp2
          go_roundw
          case rel => exact ⟨i, by omega, rfl, HB2.out, .inr ⟨rfl, rfl, HR.out⟩⟩
          case measure => simp [intOf]
        · have hp2 : Str (str (Lib.itoa (x ^ (k + k)))) (x ^ (k + k)) := str_itoa (by omega)
          rw [resV_fits hl] at HC
          generalize str (Lib.itoa (x ^ (k + k))) = p2 at *
          have HP2 := Lib.hid hp2; clear hp2 hl
          go_wp2_with (go_at_call 38; refine HC.out.mono ?_; rintro e w2 ⟨rfl, hb2⟩; refine Hid.out ?_)
          have hb := Below.chain HB.out hb2
          have HB2 := Lib.hid hb; clear hb hb2
          refine Lib.hid ?_
          have hbit : bits BinOp.and IntKind.i64 ((n : Int) / 2 ^ i) 1 = ((n / 2 ^ i % 2 : Nat) : Int) := by
            rw [show ((n : Int) / 2 ^ i) = ((n / 2 ^ i : Nat) : Int) by simp]
            exact and_one _ (by have := HD.out; omega)
          rcases Nat.mod_two_eq_zero_or_one (n / 2 ^ i) with h0 | h1
          · have hb0 : (bits BinOp.and IntKind.i64 ((n : Int) / 2 ^ i) 1 == 1) = false := by rw [hbit, h0]; rfl
            have hst : Str p2 (x ^ (n / 2 ^ i)) := by
              rw [HD.out.1, h0, show 2 * k + 0 = k + k by omega]; exact HP2.out
            have HST := Lib.hid hst
            clear hst h0 hbit
            go_wp2
            go_roundw
            case rel => exact ⟨i, by omega, rfl, HB2.out, .inl ⟨_, rfl, rfl, HST.out⟩⟩
            case measure => simp [intOf]
          · have hb1 : (bits BinOp.and IntKind.i64 ((n : Int) / 2 ^ i) 1 == 1) = true := by rw [hbit, h1]; rfl
            have hC2 := KM.out w2 p2 s _ _ HB2.out HP2.out HS.out
            rw [← Int.pow_succ] at hC2
            have he : n / 2 ^ i = k + k + 1 := by rw [HD.out.1, h1]; omega
            have HE := Lib.hid he; have HC2 := Lib.hid hC2
            clear he hC2 h1 hbit
            by_cases hl2 : 4096 < (Lib.decDigits (x ^ (k + k + 1)).natAbs).length
            · have hres : resV (x ^ n) = .tuple #[.string ⟨#[]⟩, .int .i64 10] := resV_long (pow_le_natAbs x (by have := HD.out; have := HE.out; omega) hl2)
              rw [resV_long hl2] at HC2
              have HR := Lib.hid hres; clear hres hl2
              go_wp2_with (go_at_call 38; refine HC2.out.mono ?_; rintro e w3 ⟨rfl, hb3⟩; refine Hid.out ?_)
              have hb := Below.chain HB2.out hb3
              have HB3 := Lib.hid hb; clear hb hb3
              refine Lib.hid ?_
              go_wp2
              go_roundw
              case rel => exact ⟨i, by omega, rfl, HB3.out, .inr ⟨rfl, rfl, HR.out⟩⟩
              case measure => simp [intOf]
            · have hp3 : Str (str (Lib.itoa (x ^ (k + k + 1)))) (x ^ (n / 2 ^ i)) := by rw [HE.out]; exact str_itoa (by omega)
              rw [resV_fits hl2] at HC2
              generalize str (Lib.itoa (x ^ (k + k + 1))) = p3 at *
              have HP3 := Lib.hid hp3; clear hp3 hl2
              go_wp2_with (go_at_call 38; refine HC2.out.mono ?_; rintro e w3 ⟨rfl, hb3⟩; refine Hid.out ?_)
              have hb := Below.chain HB2.out hb3
              have HB3 := Lib.hid hb; clear hb hb3
              refine Lib.hid ?_
              go_wp2
              go_roundw
              case rel => exact ⟨i, by omega, rfl, HB3.out, .inl ⟨_, rfl, rfl, HP3.out⟩⟩
              case measure => simp [intOf]
    · have HR := Lib.hid hres; clear hres
      rcases Nat.eq_zero_or_pos j with rfl | hj1
      · go_wp2
        refine bodyPost_ret (v := .tuple #[.string ⟨#[]⟩, .int .i64 10]) (by simp [results, Tryz.results51, go_sem]) rfl ?_
        exact ⟨by rw [HR.out], HB.out⟩
      · obtain ⟨i, rfl⟩ : ∃ i, j = i + 1 := ⟨j - 1, by omega⟩
        have e1 : (((i + 1 : Nat) : Int) - 1) = (i : Int) := by omega
        rw [e1]
        go_wp2
        refine bodyPost_ret (v := .tuple #[.string ⟨#[]⟩, .int .i64 10]) (by simp [results, Tryz.results51, go_sem]) rfl ?_
        exact ⟨by rw [HR.out], HB.out⟩
end Go.Proofs.YtipnnmbjkpidoaaGreatDoor

/-
  bigint: signOf; boxes with integers.
-/
namespace Go.Proofs.YtipnnmbjkpidoaaGreatDoor
open Go Go.Proofs Go.RowKit

/-- A box with an integer. -/
structure CV (W : World) (p : Nat) (z : Int) (ao : Option Addr) (c : Nat) : Prop where
  lt : p < W.heap.size
  c0 : W.cell? ⟨p, 0, none⟩ = some (.bool (sgn z))
  c1 : W.cell? ⟨p, 1, none⟩ = some (.slice ao (lenZ z) c)
  f0 : W.frozen? ⟨p, 0, none⟩ = false
  f1 : W.frozen? ⟨p, 1, none⟩ = false
  row : RowAt W ao c (limbs z.natAbs)
theorem CV.mono {W W' : World} {p : Nat} {z : Int} {ao : Option Addr} {c : Nat} (h : CV W p z ao c) (k : Below W.heap.size W W') : CV W' p z ao c :=
  ⟨Nat.lt_of_lt_of_le h.lt k.size, (k.cell (p := ⟨p, 0, none⟩) h.lt).trans h.c0, (k.cell (p := ⟨p, 1, none⟩) h.lt).trans h.c1, (k.frozen (p := ⟨p, 0, none⟩) h.lt).trans h.f0, (k.frozen (p := ⟨p, 1, none⟩) h.lt).trans h.f1, h.row.mono k⟩
theorem CV.int {W : World} {p : Nat} {z : Int} {ao : Option Addr} {c : Nat} (h : CV W p z ao c) : IntAt W (.agg #[.bool (sgn z), .slice ao (lenZ z) c]) z := ⟨ao, c, rfl, h.row⟩
theorem CV.rowput {W : World} {p : Nat} {z : Int} {ao : Option Addr} {c : Nat} (h : CV W p z ao c) {l : List Nat} {a2 : Option Addr} {c2 : Nat} (hr : RowAt W a2 c2 l) (u0 u1 : Value) : RowAt ((W.setCell ⟨p, 0, none⟩ u0).setCell ⟨p, 1, none⟩ u1) a2 c2 l := by
  refine RowAt.boxV (RowAt.boxV hr (fun k => ?_) _) (fun k => ?_) _
  · rw [h.c0]; simp
  · rw [World.cell?_setCell_other (h := by simp), h.c1]; simp
theorem CV.put {W : World} {p : Nat} {z : Int} {ao : Option Addr} {c : Nat} (h : CV W p z ao c) {z2 : Int} {a2 : Option Addr} {c2 : Nat} (hr : RowAt W a2 c2 (limbs z2.natAbs)) : CV ((W.setCell ⟨p, 0, none⟩ (.bool (sgn z2))).setCell ⟨p, 1, none⟩ (.slice a2 (lenZ z2) c2)) p z2 a2 c2 where
  lt := by simpa [World.setCell] using h.lt
  c0 := by rw [World.cell?_setCell_other (h := by simp)]; exact cellSet h.c0 _
  c1 := cellSet (u := .slice ao (lenZ z) c) (by rw [World.cell?_setCell_other (h := by simp)]; exact h.c1) _
  f0 := ((World.frozen?_setCell _ _ _ _).trans (World.frozen?_setCell _ _ _ _)).trans h.f0
  f1 := ((World.frozen?_setCell _ _ _ _).trans (World.frozen?_setCell _ _ _ _)).trans h.f1
  row := h.rowput hr _ _
theorem CV.other {W : World} {p q : Nat} {z z2 : Int} {ao a2 : Option Addr} {c c2 : Nat} (h : CV W q z ao c) (k : CV W p z2 a2 c2) (hne : p ≠ q) (u0 u1 : Value) : CV ((W.setCell ⟨p, 0, none⟩ u0).setCell ⟨p, 1, none⟩ u1) q z ao c where
  lt := by simpa [World.setCell] using h.lt
  c0 := by rw [World.cell?_setCell_other (h := by simp), World.cell?_setCell_other (h := fun e => hne (congrArg Addr.block e))]; exact h.c0
  c1 := by rw [World.cell?_setCell_other (h := fun e => hne (congrArg Addr.block e)), World.cell?_setCell_other (h := by simp)]; exact h.c1
  f0 := ((World.frozen?_setCell _ _ _ _).trans (World.frozen?_setCell _ _ _ _)).trans h.f0
  f1 := ((World.frozen?_setCell _ _ _ _).trans (World.frozen?_setCell _ _ _ _)).trans h.f1
  row := k.rowput h.row _ _
theorem CV.fresh {W : World} {z : Int} {ao : Option Addr} {c : Nat} {p : Nat} (hp : p = W.heap.size) (hr : RowAt W ao c (limbs z.natAbs)) : CV (W.alloc (Obj.cells #[.bool (sgn z), .slice ao (lenZ z) c] 81)) p z ao c := by
  subst hp
  exact ⟨by simp, by go_cell, by go_cell, by go_cell, by go_cell, hr.mono ((Below.refl _ _).alloc (Nat.le_refl _) _)⟩
theorem CV.zero {W : World} {p : Nat} (h : p < W.heap.size) (c0 : W.cell? ⟨p, 0, none⟩ = some (.bool false)) (c1 : W.cell? ⟨p, 1, none⟩ = some (.slice none 0 0)) (f0 : W.frozen? ⟨p, 0, none⟩ = false) (f1 : W.frozen? ⟨p, 1, none⟩ = false) : CV W p 0 none 0 where
  lt := h
  c0 := c0
  c1 := by rw [c1]; simp [lenZ, limbs_zero]
  f0 := f0
  f1 := f1
  row := by
    rw [show ((0 : Int).natAbs) = 0 from rfl, limbs_zero]
    obtain ⟨ao, c, e, hr⟩ := numAt_zero W
    rw [limbs_zero] at e hr
    simp only [List.length_nil] at e
    have : ao = none ∧ c = 0 := by injection e with e; simpa using e.symm
    obtain ⟨rfl, rfl⟩ := this
    exact hr

/-- The boxes of signOf. -/
structure SBox (w W : World) (b : Bool) (ao : Option Addr) (n c : Nat) : Prop where
  a0 : W.cell? ⟨w.heap.size, 0, none⟩ = some (.bool b)
  a1 : W.cell? ⟨w.heap.size, 1, none⟩ = some (.slice ao n c)
  box : RBox w W (w.heap.size + 1)
theorem SBox.mono {w W W' : World} {b : Bool} {ao : Option Addr} {n c : Nat} (h : SBox w W b ao n c) (g : Below W.heap.size W W') : SBox w W' b ao n c := by
  have hl := h.box.lt
  exact ⟨(g.cell (p := ⟨w.heap.size, 0, none⟩) (by simp; omega)).trans h.a0, (g.cell (p := ⟨w.heap.size, 1, none⟩) (by simp; omega)).trans h.a1, h.box.mono g⟩
theorem SBox.keepS {w W : World} {b : Bool} {ao : Option Addr} {n c : Nat} (h : SBox w W b ao n c) (u0 u1 : Value) : ((W.setCell ⟨w.heap.size + 1, 0, none⟩ u0).setCell ⟨w.heap.size + 1, 1, none⟩ u1).cell? ⟨w.heap.size, 0, none⟩ = some (.bool b) := by
  rw [World.cell?_setCell_other (h := by simp), World.cell?_setCell_other (h := by simp)]; exact h.a0

set_option maxHeartbeats 2000000 in
theorem signOf_any (x : Int) (va : Value) (w : World) (ha : IntAt w va x) :
    Calls Tryz.prog 151 #[va] w fun e w' => ∃ v', e = .returned v' ∧ IntAt w' v' (Int.sign x) ∧ Below w.heap.size w w' := by
  obtain ⟨ao, c, rfl, hra⟩ := ha
  have Z : ∀ W : World, Below w.heap.size w W → Calls Tryz.prog 150 #[.agg #[.slice ao (limbs x.natAbs).length c]] W fun e w' => e = .returned (.bool (decide (x.natAbs = 0))) ∧ Below W.heap.size W w' := fun W hW => isZero_any x.natAbs _ W ⟨ao, c, rfl, hra.mono hW⟩
  have O : ∀ W : World, Calls Tryz.prog 139 #[.int .u64 1] W (RetN 1 W) := fun W => of_any 1 (by decide) W
  by_cases h0 : x = 0
  · have hr0 : ∀ W : World, Below w.heap.size w W → RowAt W ao c (limbs (Int.sign x).natAbs) := fun W hW => by
      have := hra.mono hW
      subst h0; exact this
    have e1 : sgn (Int.sign x) = decide (x < 0) := by subst h0; rfl
    have e2 : lenZ (Int.sign x) = (limbs x.natAbs).length := by subst h0; rfl
    rw [show decide (x.natAbs = 0) = true by simp [h0]] at Z
    have KZ := Lib.hid Z; have KR := Lib.hid hr0; have E1 := Lib.hid e1; have E2 := Lib.hid e2
    clear Z O hr0 e1 e2 hra h0
    generalize (limbs x.natAbs).length = n at *
    generalize decide (x < 0) = b at *
    generalize Int.sign x = z at *
    have R0 : SBox w ((w.alloc (Obj.cells #[.bool b, .slice ao n c] 81)).alloc (Obj.cells #[Value.bool false, Value.slice none 0 0] 81)) b ao n c := ⟨by go_cell, by go_cell, rbox2_new w b ao n c⟩
    go_enter Tryz.func151, Tryz.ntmps151
    go_wp2_with (go_at_call 150; refine (KZ.out _ R0.box.below).mono ?_; rintro e w2 ⟨rfl, hb2⟩; refine Hid.out ?_)
    have R2 := R0.mono hb2
    have hr2 := KR.out _ R2.box.below
    clear R0 hb2
    have k1 := R2.box.r0; have k2 := R2.box.r1; have k3 := R2.box.f0; have k4 := R2.box.f1; have k5 := R2.a0; have k6 := R2.a1
    obtain ⟨hI, hS⟩ := IntAt.stored (w := w) (by omega : w.heap.size ≤ w.heap.size + 1) R2.box hr2
    rw [E1.out, E2.out] at hI hS
    have q0 := hS.q0; have q1 := hS.q1; have hbF := hS.below
    have HI := Lib.hid hI
    clear hI hS hr2
    refine Lib.hid ?_
    go_wp2
    refine bodyPost_ret (v := .agg #[.bool b, .slice ao n c]) (by simp [results, Tryz.results151, go_sem, q0, q1]) rfl ?_
    exact ⟨_, rfl, HI.out, hbF⟩
  · have e0 : (Int.sign x).natAbs = 1 := by
      rcases Int.lt_or_gt_of_ne h0 with h | h
      · rw [Int.sign_eq_neg_one_of_neg h]; rfl
      · rw [Int.sign_eq_one_of_pos h]; rfl
    have e1 : sgn (Int.sign x) = decide (x < 0) := by
      unfold sgn
      rcases Int.lt_or_gt_of_ne h0 with h | h
      · rw [Int.sign_eq_neg_one_of_neg h, decide_eq_true h]; rfl
      · rw [Int.sign_eq_one_of_pos h, decide_eq_false (show ¬ x < 0 by omega)]; rfl
    have e2 : lenZ (Int.sign x) = (limbs 1).length := by unfold lenZ; rw [e0]
    rw [show decide (x.natAbs = 0) = false by simp [h0]] at Z
    have KZ := Lib.hid Z; have KO := Lib.hid O; have E0 := Lib.hid e0; have E1 := Lib.hid e1; have E2 := Lib.hid e2
    clear Z O e0 e1 e2 hra h0
    generalize (limbs x.natAbs).length = n at *
    generalize decide (x < 0) = b at *
    generalize Int.sign x = z at *
    have R0 : SBox w ((w.alloc (Obj.cells #[.bool b, .slice ao n c] 81)).alloc (Obj.cells #[Value.bool false, Value.slice none 0 0] 81)) b ao n c := ⟨by go_cell, by go_cell, rbox2_new w b ao n c⟩
    go_enter Tryz.func151, Tryz.ntmps151
    go_wp2_with (go_at_call 150; refine (KZ.out _ R0.box.below).mono ?_; rintro e w2 ⟨rfl, hb2⟩; refine Hid.out ?_)
    have R2 := R0.mono hb2
    clear R0 hb2
    have A2 := R2.mono ((Below.refl _ _).drew)
    have k5 := A2.a0
    refine Lib.hid ?_
    go_wp2_with fail
    go_region_held3 (fun w' => w'.cell? ⟨w.heap.size, 0, none⟩ = some (.bool b)) (first | exact A3.keepS _ _ | exact A3.a0 | exact A2.a0) (first
      | (go_at_call 139; refine (KO.out _).mono ?_; rintro e w3 ⟨v3, rfl, hv3, hb3⟩; have A3 := A2.mono hb3; obtain ⟨a3, c3, rfl, hr3⟩ := hv3; have k1 := A3.box.r0; have k2 := A3.box.r1; have k3 := A3.box.f0; have k4 := A3.box.f1))
    all_goals
      obtain ⟨hI, hS⟩ := IntAt.stored (w := w) (by omega : w.heap.size ≤ w.heap.size + 1) A3.box (z := z) (ao := a3) (c := c3) (by rw [E0.out]; exact hr3)
      rw [E1.out, E2.out] at hI hS
      have q0 := hS.q0; have q1 := hS.q1; have hbF := hS.below
      have HI := Lib.hid hI
      clear hI hS hr3
      go_wp2
      refine bodyPost_ret (v := .agg #[.bool b, .slice a3 (limbs 1).length c3]) (by simp [results, Tryz.results151, go_sem, q0, q1]) rfl ?_
      exact ⟨_, rfl, HI.out, hbF⟩
end Go.Proofs.YtipnnmbjkpidoaaGreatDoor

/-
  Bezout's loop on integers.
-/
namespace Go.Proofs.YtipnnmbjkpidoaaGreatDoor
open Go Go.Proofs

theorem fmod_natAbs_lt (x y : Int) (hy : y ≠ 0) : (x.fmod y).natAbs < y.natAbs := by
  have hp : 0 < y.natAbs := by omega
  have h1 := Nat.mod_lt x.natAbs hp
  have h2 : missN x.natAbs y.natAbs < y.natAbs := by unfold missN; split <;> omega
  by_cases hx : x < 0 <;> by_cases h : y < 0
  · rw [fmod_nn x y hx h]; omega
  · rw [fmod_np x y hy hx h]; omega
  · rw [fmod_pn x y hy hx h]; omega
  · rw [fmod_pp x y hx h]; omega
theorem step_fmod (g n : Int) : g - g.fdiv n * n = g.fmod n := by rw [Int.fmod_def, Int.mul_comm]

/-- Euclid's algorithm with the factors of the first number: from the remainders g, n and their factors x, f. -/
def bezRun (g n x f : Int) : Int × Int :=
  if h : n = 0 then (g, x) else bezRun n (g - g.fdiv n * n) f (x - g.fdiv n * f)
termination_by n.natAbs
decreasing_by rw [step_fmod]; exact fmod_natAbs_lt g n h

theorem bezRun_zero (g x f : Int) : bezRun g 0 x f = (g, x) := by rw [bezRun, dif_pos rfl]
theorem bezRun_step (g n x f : Int) (h : n ≠ 0) : bezRun g n x f = bezRun n (g - g.fdiv n * n) f (x - g.fdiv n * f) := by rw [bezRun, dif_neg h]

/-- What holds at each round: the sizes. -/
structure BezInv (B : Nat) (g n x f : Int) : Prop where
  g0 : 0 < g
  n0 : 0 ≤ n
  gB : g.natAbs ≤ B
  nB : n.natAbs ≤ B
  xB : x.natAbs ≤ B
  fB : f.natAbs ≤ B
  sum : f.natAbs * g.natAbs + x.natAbs * n.natAbs ≤ B
theorem fmod_nonneg (g n : Int) (h : 0 < n) : 0 ≤ g.fmod n := by
  by_cases hg : g < 0
  · rw [fmod_np g n (by omega) hg (by omega)]; omega
  · rw [fmod_pp g n hg (by omega)]; omega
theorem fdiv_nonneg' (g n : Int) (hg : 0 ≤ g) (h : 0 < n) : 0 ≤ g.fdiv n := by
  rw [fdiv_same g n (by omega) (propext ⟨fun k => by omega, fun k => by omega⟩)]; exact Int.natCast_nonneg _
theorem BezInv.step {B : Nat} {g n x f : Int} (h : BezInv B g n x f) (hn : n ≠ 0) : BezInv B n (g - g.fdiv n * n) f (x - g.fdiv n * f) := by
  obtain ⟨g0, n0, gB, nB, xB, fB, sum⟩ := h
  have hr0 := fmod_nonneg g n (by omega)
  have hr1 := fmod_natAbs_lt g n hn
  have hq := fdiv_nonneg' g n (by omega) (by omega)
  have hg : g.natAbs = (g.fdiv n).natAbs * n.natAbs + (g.fmod n).natAbs := by
    have := step_fmod g n
    have h1 : g = g.fdiv n * n + g.fmod n := by omega
    have h2 : 0 ≤ g.fdiv n * n := Int.mul_nonneg hq (by omega)
    rw [← Int.natAbs_mul]
    omega
  rw [step_fmod]
  have hf : (x - g.fdiv n * f).natAbs ≤ x.natAbs + (g.fdiv n).natAbs * f.natAbs := by rw [← Int.natAbs_mul]; omega
  generalize g.fdiv n = q at *
  generalize g.fmod n = r at *
  generalize x - q * f = f2 at *
  generalize q.natAbs = Q at *
  have key : f2.natAbs * n.natAbs + f.natAbs * r.natAbs ≤ B := by
    refine Nat.le_trans ?_ sum
    rw [hg]
    have h1 : f2.natAbs * n.natAbs ≤ (x.natAbs + Q * f.natAbs) * n.natAbs := Nat.mul_le_mul_right _ hf
    have e1 : (x.natAbs + Q * f.natAbs) * n.natAbs = x.natAbs * n.natAbs + f.natAbs * (Q * n.natAbs) := by
      rw [Nat.add_mul, Nat.mul_comm Q, Nat.mul_assoc]
    have e2 : f.natAbs * (Q * n.natAbs + r.natAbs) = f.natAbs * (Q * n.natAbs) + f.natAbs * r.natAbs := Nat.mul_add ..
    omega
  refine ⟨by omega, hr0, nB, by omega, fB, ?_, key⟩
  have : f2.natAbs ≤ f2.natAbs * n.natAbs := Nat.le_mul_of_pos_right _ (by omega)
  omega
theorem BezInv.start (b : Int) (n : Int) (hb : b ≠ 0) (hn0 : 0 ≤ n) (hn : n.natAbs ≤ b.natAbs) : BezInv b.natAbs (b.natAbs : Int) n 0 1 :=
  ⟨by omega, hn0, by omega, hn, by omega, by simp; omega, by simp⟩
theorem bezRun_inv (B : Nat) : ∀ (k : Nat) (g n x f : Int), n.natAbs ≤ k → BezInv B g n x f → 0 < (bezRun g n x f).1 ∧ (bezRun g n x f).1.natAbs ≤ B ∧ (bezRun g n x f).2.natAbs ≤ B := by
  intro k
  induction k with
  | zero =>
    intro g n x f hk h
    have : n = 0 := by omega
    subst this
    rw [bezRun_zero]
    exact ⟨h.g0, h.gB, h.xB⟩
  | succ k ih =>
    intro g n x f hk h
    by_cases hn : n = 0
    · subst hn
      rw [bezRun_zero]
      exact ⟨h.g0, h.gB, h.xB⟩
    · rw [bezRun_step g n x f hn]
      refine ih _ _ _ _ ?_ (h.step hn)
      rw [step_fmod]
      have := fmod_natAbs_lt g n hn
      omega

/-- The greatest common divisor and the coefficients. -/
def bezOf (a b : Int) : Int × Int × Int :=
  if b = 0 then ((a.natAbs : Int), Int.sign a, 0) else
    let r := bezRun (b.natAbs : Int) (a.fmod (b.natAbs : Int)) 0 1
    let x := r.2.fmod ((b.natAbs : Int).fdiv r.1)
    (r.1, x, (r.1 - a * x).fdiv b)
end Go.Proofs.YtipnnmbjkpidoaaGreatDoor
