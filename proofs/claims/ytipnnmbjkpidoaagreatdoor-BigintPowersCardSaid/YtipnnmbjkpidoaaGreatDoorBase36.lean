import Derived.Test.YtipnnmbjkpidoaaGreatDoorBase35

set_option linter.unusedVariables false
/-
  The reference: Power, Pow; Pow of bigint for all strings and ints; BigintPowers: the walk.
-/
namespace Go.Proofs.YtipnnmbjkpidoaaGreatDoor
open Go Go.Proofs Go.RowKit

theorem eqLit (s : ByteArray) (l : List UInt8) (h : bytes s ≠ l) : (s.toList == l) = false := by
  rw [beq_eq_false_iff_ne]
  intro h1
  exact h (h1 ▸ (ByteArray.toList_eq s).symm)
theorem itoa_m1 : Lib.itoa (-1) = [45, 49] := by decide +kernel
theorem itoa_1 : Lib.itoa 1 = [49] := by decide +kernel
theorem refDigitsI (z : Int) (w : World) (h : (Lib.decDigits z.natAbs).length ≤ 1000000) :
    Calls Tryz.prog 50 #[.string (str (Lib.itoa z))] w fun e w' => e = .returned (.int .i64 ((Lib.decDigits z.natAbs).length : Nat)) ∧ w' = w := by
  have := refDigits_any (str (Lib.itoa z)) w (txt_size (txt_str z)) (by have := itoa_len z; omega)
  rwa [bytes_str, digL_itoa] at this
theorem mul_len (x y : Int) : (Lib.decDigits (x * y).natAbs).length ≤ (Lib.decDigits x.natAbs).length + (Lib.decDigits y.natAbs).length := by
  have p1 : 0 < (Lib.decDigits x.natAbs).length := List.length_pos_iff.2 (decDigits_ne_nil _)
  refine decDigits_length_le _ _ (by omega) ?_
  rw [Int.natAbs_mul, Nat.pow_add]
  exact Nat.mul_lt_mul'' (dec_pow (Nat.le_refl _)) (dec_pow (Nat.le_refl _))

/-- The loop's contracts, hidden. -/
theorem pow_facts (s : ByteArray) (x : Int) (n M : Nat) (hs : Str s x) (he : x ^ M = x ^ n) :
    (∀ (o : ByteArray) (y : Int), Str o y → ∀ W, Calls Tryz.prog 87 #[.string o, .string s] W (Bret (.string (str (Lib.itoa (y * x)))) W)) ∧
    (∀ (z : Int) (o : ByteArray) (y : Int), Str o y → z = y * x → ∀ W, Calls Tryz.prog 50 #[.string (str (Lib.itoa z))] W fun e w' => e = .returned (.int .i64 ((Lib.decDigits z.natAbs).length : Nat)) ∧ w' = W) ∧
    (∀ i, i ≤ M → 4096 < (Lib.decDigits (x ^ i).natAbs).length → resV (x ^ n) = .tuple #[.string ⟨#[]⟩, .int .i64 10]) ∧
    (∀ o, Str o (x ^ M) → resV (x ^ n) = .tuple #[.string o, .int .i64 0]) := by
  refine ⟨fun o y ho W => refProductI o s y x W ho.text hs.text (by have := ho.size; omega) (by have := hs.size; omega), fun z o y ho hz W => ?_, fun i hi hl => ?_, fun o ho => ?_⟩
  · refine refDigitsI z W ?_
    rw [hz]
    have h1 := mul_len y x
    have h2 := ho.len; have h3 := hs.len
    omega
  · rw [← he]; exact resV_long (pow_le_natAbs x hi hl)
  · rw [← he]; exact resV_lit ho

set_option maxHeartbeats 4000000 in
theorem power_gen (s : ByteArray) (x : Int) (n : Nat) (w : World) (hs : Str s x) (hn : n ≤ 1048576) (h0 : x ≠ 0) (h1 : x ≠ 1) (h2 : x ≠ -1) :
    Calls Tryz.prog 103 #[.string s, .int .i64 n] w (Bret (resV (x ^ n)) w) := by
  have t0 := eqLit s [48] (fun e => h0 (itoa_inj (hs.text.symm.trans (e.trans itoa_zero.symm))))
  have t1 := eqLit s [49] (fun e => h1 (itoa_inj (hs.text.symm.trans (e.trans itoa_1.symm))))
  have t2 := eqLit s [45, 49] (fun e => h2 (itoa_inj (hs.text.symm.trans (e.trans itoa_m1.symm))))
  obtain ⟨f1, f2, f3, f4⟩ := pow_facts s x n n hs rfl
  have KP := Lib.hid f1; have KD := Lib.hid f2; have KN := Lib.hid f3; have KE := Lib.hid f4
  clear f1 f2 f3 f4 hs h0 h1 h2
  go_enter Tryz.func103, Tryz.ntmps103
  go_wp2_with fail
  go_loopw [6, 7] (fun ov iv wr => ∃ (i : Nat) (o : ByteArray), i ≤ n ∧ iv = .int .i64 i ∧ ov = .string o ∧ Str o (x ^ i) ∧ Below w.heap.size w wr) (fun _ iv _ => n - (intOf iv).toNat)
  case atStart => exact ⟨0, _, Nat.zero_le _, rfl, rfl, by rw [Int.pow_zero]; exact s1, Below.refl _ _⟩
  case round =>
    obtain ⟨i, o, hi, rfl, rfl, ho, hbw⟩ := hrel
    have HB := Lib.hid hbw; clear hbw
    by_cases hlt : i < n
    · have hc := KP.out o (x ^ i) ho wr
      rw [← Int.pow_succ] at hc
      have hd := KD.out (x ^ (i + 1)) o (x ^ i) ho (Int.pow_succ ..)
      have hn1 := KN.out (i + 1) (by omega)
      generalize hR : str (Lib.itoa (x ^ (i + 1))) = R at *
      have HR := Lib.hid hR
      clear hR
      by_cases hlong : 4096 < (Lib.decDigits (x ^ (i + 1)).natAbs).length
      · have hres := hn1 hlong
        generalize (Lib.decDigits (x ^ (i + 1)).natAbs).length = dl at *
        have KC := Lib.hid hc; have KD' := Lib.hid hd; have KR := Lib.hid hres
        clear hc hd hn1 hres ho
        go_wp2_with (go_at_call 87; refine KC.out.mono ?_; rintro e w2 ⟨rfl, hb2⟩; refine Hid.out ?_)
        refine Lib.hid ?_
        go_wp2_with (go_at_call 50; refine (KD'.out _).mono ?_; rintro e w3 ⟨rfl, h⟩; subst h; refine Hid.out ?_)
        refine Lib.hid ?_
        go_wp2
        refine bodyPost_ret (v := .tuple #[.string ⟨#[]⟩, .int .i64 10]) (by simp [results, Tryz.results103, go_sem]) rfl ?_
        exact ⟨by rw [KR.out], Below.chain HB.out hb2⟩
      · have hst : Str R (x ^ (i + 1)) := by rw [← HR.out]; exact str_itoa (by omega)
        have hdl : (Lib.decDigits (x ^ (i + 1)).natAbs).length ≤ 4096 := by omega
        have HST := Lib.hid hst
        generalize hdd : (Lib.decDigits (x ^ (i + 1)).natAbs).length = dl at *
        have KC := Lib.hid hc; have KD' := Lib.hid hd
        clear hc hd hn1 ho hst hdd hlong
        go_wp2_with (go_at_call 87; refine KC.out.mono ?_; rintro e w2 ⟨rfl, hb2⟩; refine Hid.out ?_)
        refine Lib.hid ?_
        go_wp2_with (go_at_call 50; refine (KD'.out _).mono ?_; rintro e w3 ⟨rfl, h⟩; subst h; refine Hid.out ?_)
        refine Lib.hid ?_
        go_wp2
        go_roundw
        case rel => exact ⟨i + 1, R, by omega, by go_num, rfl, HST.out, Below.chain HB.out hb2⟩
        case measure => simp [intOf]; omega
    · have hiM : i = n := by omega
      have hres := KE.out o (by rw [← hiM]; exact ho)
      have KR := Lib.hid hres; have HI := Lib.hid hiM
      clear hres ho hiM
      go_wp2
      refine bodyPost_ret (v := .tuple #[.string o, .int .i64 0]) (by simp [results, Tryz.results103, go_sem]) rfl ?_
      exact ⟨by rw [KR.out], HB.out⟩

theorem pow_small (x : Int) (n : Nat) (hx : x = 0 ∨ x = 1 ∨ x = -1) : x ^ (n % 2 + 2 * min (n / 2) 1) = x ^ n := by
  have hn := Nat.div_add_mod n 2
  rcases hx with rfl | rfl | rfl
  · by_cases h : n = 0
    · subst h; rfl
    · rw [Int.zero_pow (by omega), Int.zero_pow h]
  · rw [Int.one_pow, Int.one_pow]
  · have e : ∀ k : Nat, (-1 : Int) ^ (n % 2 + 2 * k) = (-1) ^ (n % 2) := fun k => by
      rw [Int.pow_add, Int.pow_mul, show ((-1 : Int) ^ 2) = 1 from rfl, Int.one_pow, Int.mul_one]
    rw [e]
    conv => rhs; rw [← hn, Nat.add_comm]
    rw [e]

set_option maxHeartbeats 4000000 in
theorem power_zero (n : Nat) (w : World) (hn : n ≤ 1048576) :
    Calls Tryz.prog 103 #[.string ⟨#[48]⟩, .int .i64 n] w (Bret (resV (0 ^ n)) w) := by
  obtain ⟨x, hx⟩ : ∃ x : Int, x = 0 := ⟨_, rfl⟩
  obtain ⟨s, hss⟩ : ∃ s : ByteArray, s = ⟨#[48]⟩ := ⟨_, rfl⟩
  have hs : Str s x := by rw [hx, hss]; exact str_zero
  obtain ⟨M, hM⟩ : ∃ M : Nat, M = n % 2 + 2 * min (n / 2) 1 := ⟨_, rfl⟩
  obtain ⟨f1, f2, f3, f4⟩ := pow_facts s x n M hs (by rw [hM]; exact pow_small x n (by omega))
  have hm : (n : Int) % 2 + 2 * min ((n : Int) / 2) 1 = (M : Int) := by omega
  have hm1 : min ((n : Int) / 2) 1 ≤ 1 := by omega
  have hm2 : 0 ≤ min ((n : Int) / 2) 1 := by omega
  have hM3 : M ≤ 3 := by omega
  rw [← hx]
  rw [hss] at f1
  have KP := Lib.hid f1; have KD := Lib.hid f2; have KN := Lib.hid f3; have KE := Lib.hid f4
  have HX := Lib.hid hx
  clear f1 f2 f3 f4 hs hM hss hx
  go_enter Tryz.func103, Tryz.ntmps103
  go_wp2_with fail
  go_loopw [6, 7] (fun ov iv wr => ∃ (i : Nat) (o : ByteArray), i ≤ M ∧ iv = .int .i64 i ∧ ov = .string o ∧ Str o (x ^ i) ∧ Below w.heap.size w wr) (fun _ iv _ => M - (intOf iv).toNat)
  case atStart => exact ⟨0, _, Nat.zero_le _, rfl, rfl, by rw [Int.pow_zero]; exact s1, Below.refl _ _⟩
  case round =>
    obtain ⟨i, o, hi, rfl, rfl, ho, hbw⟩ := hrel
    have HB := Lib.hid hbw; clear hbw
    by_cases hlt : i < M
    · have hc := KP.out o (x ^ i) ho wr
      rw [← Int.pow_succ] at hc
      have hd := KD.out (x ^ (i + 1)) o (x ^ i) ho (Int.pow_succ ..)
      have hn1 := KN.out (i + 1) (by omega)
      generalize hR : str (Lib.itoa (x ^ (i + 1))) = R at *
      have HR := Lib.hid hR
      clear hR
      by_cases hlong : 4096 < (Lib.decDigits (x ^ (i + 1)).natAbs).length
      · have hres := hn1 hlong
        generalize (Lib.decDigits (x ^ (i + 1)).natAbs).length = dl at *
        have KC := Lib.hid hc; have KD' := Lib.hid hd; have KR := Lib.hid hres
        clear hc hd hn1 hres ho
        go_wp2_with (go_at_call 87; refine KC.out.mono ?_; rintro e w2 ⟨rfl, hb2⟩; refine Hid.out ?_)
        refine Lib.hid ?_
        go_wp2_with (go_at_call 50; refine (KD'.out _).mono ?_; rintro e w3 ⟨rfl, h⟩; subst h; refine Hid.out ?_)
        refine Lib.hid ?_
        go_wp2
        refine bodyPost_ret (v := .tuple #[.string ⟨#[]⟩, .int .i64 10]) (by simp [results, Tryz.results103, go_sem]) rfl ?_
        exact ⟨by rw [KR.out], Below.chain HB.out hb2⟩
      · have hst : Str R (x ^ (i + 1)) := by rw [← HR.out]; exact str_itoa (by omega)
        have hdl : (Lib.decDigits (x ^ (i + 1)).natAbs).length ≤ 4096 := by omega
        have HST := Lib.hid hst
        generalize hdd : (Lib.decDigits (x ^ (i + 1)).natAbs).length = dl at *
        have KC := Lib.hid hc; have KD' := Lib.hid hd
        clear hc hd hn1 ho hst hdd hlong
        go_wp2_with (go_at_call 87; refine KC.out.mono ?_; rintro e w2 ⟨rfl, hb2⟩; refine Hid.out ?_)
        refine Lib.hid ?_
        go_wp2_with (go_at_call 50; refine (KD'.out _).mono ?_; rintro e w3 ⟨rfl, h⟩; subst h; refine Hid.out ?_)
        refine Lib.hid ?_
        go_wp2
        go_roundw
        case rel => exact ⟨i + 1, R, by omega, by go_num, rfl, HST.out, Below.chain HB.out hb2⟩
        case measure => simp [intOf]; omega
    · have hiM : i = M := by omega
      have hres := KE.out o (by rw [← hiM]; exact ho)
      have KR := Lib.hid hres; have HI := Lib.hid hiM
      clear hres ho hiM
      go_wp2
      refine bodyPost_ret (v := .tuple #[.string o, .int .i64 0]) (by simp [results, Tryz.results103, go_sem]) rfl ?_
      exact ⟨by rw [KR.out], HB.out⟩

set_option maxHeartbeats 4000000 in
theorem power_one (n : Nat) (w : World) (hn : n ≤ 1048576) :
    Calls Tryz.prog 103 #[.string ⟨#[49]⟩, .int .i64 n] w (Bret (resV (1 ^ n)) w) := by
  obtain ⟨x, hx⟩ : ∃ x : Int, x = 1 := ⟨_, rfl⟩
  obtain ⟨s, hss⟩ : ∃ s : ByteArray, s = ⟨#[49]⟩ := ⟨_, rfl⟩
  have hs : Str s x := by rw [hx, hss]; exact s1
  obtain ⟨M, hM⟩ : ∃ M : Nat, M = n % 2 + 2 * min (n / 2) 1 := ⟨_, rfl⟩
  obtain ⟨f1, f2, f3, f4⟩ := pow_facts s x n M hs (by rw [hM]; exact pow_small x n (by omega))
  have hm : (n : Int) % 2 + 2 * min ((n : Int) / 2) 1 = (M : Int) := by omega
  have hm1 : min ((n : Int) / 2) 1 ≤ 1 := by omega
  have hm2 : 0 ≤ min ((n : Int) / 2) 1 := by omega
  have hM3 : M ≤ 3 := by omega
  rw [← hx]
  rw [hss] at f1
  have KP := Lib.hid f1; have KD := Lib.hid f2; have KN := Lib.hid f3; have KE := Lib.hid f4
  have HX := Lib.hid hx
  clear f1 f2 f3 f4 hs hM hss hx
  go_enter Tryz.func103, Tryz.ntmps103
  go_wp2_with fail
  go_loopw [6, 7] (fun ov iv wr => ∃ (i : Nat) (o : ByteArray), i ≤ M ∧ iv = .int .i64 i ∧ ov = .string o ∧ Str o (x ^ i) ∧ Below w.heap.size w wr) (fun _ iv _ => M - (intOf iv).toNat)
  case atStart => exact ⟨0, _, Nat.zero_le _, rfl, rfl, by rw [Int.pow_zero]; exact s1, Below.refl _ _⟩
  case round =>
    obtain ⟨i, o, hi, rfl, rfl, ho, hbw⟩ := hrel
    have HB := Lib.hid hbw; clear hbw
    by_cases hlt : i < M
    · have hc := KP.out o (x ^ i) ho wr
      rw [← Int.pow_succ] at hc
      have hd := KD.out (x ^ (i + 1)) o (x ^ i) ho (Int.pow_succ ..)
      have hn1 := KN.out (i + 1) (by omega)
      generalize hR : str (Lib.itoa (x ^ (i + 1))) = R at *
      have HR := Lib.hid hR
      clear hR
      by_cases hlong : 4096 < (Lib.decDigits (x ^ (i + 1)).natAbs).length
      · have hres := hn1 hlong
        generalize (Lib.decDigits (x ^ (i + 1)).natAbs).length = dl at *
        have KC := Lib.hid hc; have KD' := Lib.hid hd; have KR := Lib.hid hres
        clear hc hd hn1 hres ho
        go_wp2_with (go_at_call 87; refine KC.out.mono ?_; rintro e w2 ⟨rfl, hb2⟩; refine Hid.out ?_)
        refine Lib.hid ?_
        go_wp2_with (go_at_call 50; refine (KD'.out _).mono ?_; rintro e w3 ⟨rfl, h⟩; subst h; refine Hid.out ?_)
        refine Lib.hid ?_
        go_wp2
        refine bodyPost_ret (v := .tuple #[.string ⟨#[]⟩, .int .i64 10]) (by simp [results, Tryz.results103, go_sem]) rfl ?_
        exact ⟨by rw [KR.out], Below.chain HB.out hb2⟩
      · have hst : Str R (x ^ (i + 1)) := by rw [← HR.out]; exact str_itoa (by omega)
        have hdl : (Lib.decDigits (x ^ (i + 1)).natAbs).length ≤ 4096 := by omega
        have HST := Lib.hid hst
        generalize hdd : (Lib.decDigits (x ^ (i + 1)).natAbs).length = dl at *
        have KC := Lib.hid hc; have KD' := Lib.hid hd
        clear hc hd hn1 ho hst hdd hlong
        go_wp2_with (go_at_call 87; refine KC.out.mono ?_; rintro e w2 ⟨rfl, hb2⟩; refine Hid.out ?_)
        refine Lib.hid ?_
        go_wp2_with (go_at_call 50; refine (KD'.out _).mono ?_; rintro e w3 ⟨rfl, h⟩; subst h; refine Hid.out ?_)
        refine Lib.hid ?_
        go_wp2
        go_roundw
        case rel => exact ⟨i + 1, R, by omega, by go_num, rfl, HST.out, Below.chain HB.out hb2⟩
        case measure => simp [intOf]; omega
    · have hiM : i = M := by omega
      have hres := KE.out o (by rw [← hiM]; exact ho)
      have KR := Lib.hid hres; have HI := Lib.hid hiM
      clear hres ho hiM
      go_wp2
      refine bodyPost_ret (v := .tuple #[.string o, .int .i64 0]) (by simp [results, Tryz.results103, go_sem]) rfl ?_
      exact ⟨by rw [KR.out], HB.out⟩

set_option maxHeartbeats 4000000 in
theorem power_minus (n : Nat) (w : World) (hn : n ≤ 1048576) :
    Calls Tryz.prog 103 #[.string ⟨#[45, 49]⟩, .int .i64 n] w (Bret (resV ((-1) ^ n)) w) := by
  obtain ⟨x, hx⟩ : ∃ x : Int, x = (-1) := ⟨_, rfl⟩
  obtain ⟨s, hss⟩ : ∃ s : ByteArray, s = ⟨#[45, 49]⟩ := ⟨_, rfl⟩
  have hs : Str s x := by rw [hx, hss]; exact sM1
  obtain ⟨M, hM⟩ : ∃ M : Nat, M = n % 2 + 2 * min (n / 2) 1 := ⟨_, rfl⟩
  obtain ⟨f1, f2, f3, f4⟩ := pow_facts s x n M hs (by rw [hM]; exact pow_small x n (by omega))
  have hm : (n : Int) % 2 + 2 * min ((n : Int) / 2) 1 = (M : Int) := by omega
  have hm1 : min ((n : Int) / 2) 1 ≤ 1 := by omega
  have hm2 : 0 ≤ min ((n : Int) / 2) 1 := by omega
  have hM3 : M ≤ 3 := by omega
  rw [← hx]
  rw [hss] at f1
  have KP := Lib.hid f1; have KD := Lib.hid f2; have KN := Lib.hid f3; have KE := Lib.hid f4
  have HX := Lib.hid hx
  clear f1 f2 f3 f4 hs hM hss hx
  go_enter Tryz.func103, Tryz.ntmps103
  go_wp2_with fail
  go_loopw [6, 7] (fun ov iv wr => ∃ (i : Nat) (o : ByteArray), i ≤ M ∧ iv = .int .i64 i ∧ ov = .string o ∧ Str o (x ^ i) ∧ Below w.heap.size w wr) (fun _ iv _ => M - (intOf iv).toNat)
  case atStart => exact ⟨0, _, Nat.zero_le _, rfl, rfl, by rw [Int.pow_zero]; exact s1, Below.refl _ _⟩
  case round =>
    obtain ⟨i, o, hi, rfl, rfl, ho, hbw⟩ := hrel
    have HB := Lib.hid hbw; clear hbw
    by_cases hlt : i < M
    · have hc := KP.out o (x ^ i) ho wr
      rw [← Int.pow_succ] at hc
      have hd := KD.out (x ^ (i + 1)) o (x ^ i) ho (Int.pow_succ ..)
      have hn1 := KN.out (i + 1) (by omega)
      generalize hR : str (Lib.itoa (x ^ (i + 1))) = R at *
      have HR := Lib.hid hR
      clear hR
      by_cases hlong : 4096 < (Lib.decDigits (x ^ (i + 1)).natAbs).length
      · have hres := hn1 hlong
        generalize (Lib.decDigits (x ^ (i + 1)).natAbs).length = dl at *
        have KC := Lib.hid hc; have KD' := Lib.hid hd; have KR := Lib.hid hres
        clear hc hd hn1 hres ho
        go_wp2_with (go_at_call 87; refine KC.out.mono ?_; rintro e w2 ⟨rfl, hb2⟩; refine Hid.out ?_)
        refine Lib.hid ?_
        go_wp2_with (go_at_call 50; refine (KD'.out _).mono ?_; rintro e w3 ⟨rfl, h⟩; subst h; refine Hid.out ?_)
        refine Lib.hid ?_
        go_wp2
        refine bodyPost_ret (v := .tuple #[.string ⟨#[]⟩, .int .i64 10]) (by simp [results, Tryz.results103, go_sem]) rfl ?_
        exact ⟨by rw [KR.out], Below.chain HB.out hb2⟩
      · have hst : Str R (x ^ (i + 1)) := by rw [← HR.out]; exact str_itoa (by omega)
        have hdl : (Lib.decDigits (x ^ (i + 1)).natAbs).length ≤ 4096 := by omega
        have HST := Lib.hid hst
        generalize hdd : (Lib.decDigits (x ^ (i + 1)).natAbs).length = dl at *
        have KC := Lib.hid hc; have KD' := Lib.hid hd
        clear hc hd hn1 ho hst hdd hlong
        go_wp2_with (go_at_call 87; refine KC.out.mono ?_; rintro e w2 ⟨rfl, hb2⟩; refine Hid.out ?_)
        refine Lib.hid ?_
        go_wp2_with (go_at_call 50; refine (KD'.out _).mono ?_; rintro e w3 ⟨rfl, h⟩; subst h; refine Hid.out ?_)
        refine Lib.hid ?_
        go_wp2
        go_roundw
        case rel => exact ⟨i + 1, R, by omega, by go_num, rfl, HST.out, Below.chain HB.out hb2⟩
        case measure => simp [intOf]; omega
    · have hiM : i = M := by omega
      have hres := KE.out o (by rw [← hiM]; exact ho)
      have KR := Lib.hid hres; have HI := Lib.hid hiM
      clear hres ho hiM
      go_wp2
      refine bodyPost_ret (v := .tuple #[.string o, .int .i64 0]) (by simp [results, Tryz.results103, go_sem]) rfl ?_
      exact ⟨by rw [KR.out], HB.out⟩

theorem refPower_any (s : ByteArray) (x : Int) (n : Nat) (w : World) (hs : Str s x) (hn : n ≤ 1048576) :
    Calls Tryz.prog 103 #[.string s, .int .i64 n] w (Bret (resV (x ^ n)) w) := by
  by_cases h0 : x = 0
  · subst h0; rw [← lit_str hs, lit_str str_zero]; exact power_zero n w hn
  · by_cases h1 : x = 1
    · subst h1; rw [← lit_str hs, lit_str s1]; exact power_one n w hn
    · by_cases h2 : x = -1
      · subst h2; rw [← lit_str hs, lit_str sM1]; exact power_minus n w hn
      · exact power_gen s x n w hs hn h0 h1 h2
end Go.Proofs.YtipnnmbjkpidoaaGreatDoor
