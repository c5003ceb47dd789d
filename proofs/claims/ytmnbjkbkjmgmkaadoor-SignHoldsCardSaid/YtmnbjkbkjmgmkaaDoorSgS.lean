/-
  bigint: Sign of strings; the reference's Check, Few and Sign (what the laws of sign need of them).
-/
import Derived.Test.YtmnbjkbkjmgmkaaDoorInt4
import Derived.Lib.QuietBelow
set_option linter.unusedSimpArgs false
set_option linter.unusedVariables false
namespace Go.Proofs.YtmnbjkbkjmgmkaaDoor
open Go Go.Proofs Go.RowKit

/-- A string that is an integer's canonical notation, not too long. -/
structure Str (s : ByteArray) (z : Int) : Prop where
  text : bytes s = Lib.itoa z
  len : (Lib.decDigits z.natAbs).length ≤ 4096

theorem Str.err {s : ByteArray} {z : Int} (h : Str s z) : errOf (bytes s) = 0 := by rw [h.text]; exact errOf_itoa z h.len

theorem Str.size {s : ByteArray} {z : Int} (h : Str s z) : s.size ≤ 4097 := by
  have h1 : (bytes s).length = s.size := rfl
  rw [← h1, h.text]
  have := h.len
  by_cases hz : z < 0
  · rw [itoa_neg hz]; simp; omega
  · rw [itoa_nonneg hz]; omega

theorem eq48 (s : ByteArray) (h : s ≠ ⟨#[48]⟩) : (s.toList == [48]) = false := by
  rw [beq_eq_false_iff_ne]
  intro h1
  have h2 : bytes s = [48] := h1 ▸ (ByteArray.toList_eq s).symm
  exact h (ByteArray.ext (Array.ext' h2))

theorem cmpR_parts (a b : List UInt8) : ∃ (r : Int) (e : Nat), cmpR a b = .tuple #[.int .i64 r, .int .i64 e] ∧ r = (if errBoth a b = 0 then ordZ a b else 0) ∧ e = errBoth a b := ⟨_, _, rfl, rfl, rfl⟩

theorem Str.ne_zero {t : ByteArray} {y : Int} (h : Str t y) (hy : y ≠ 0) : t ≠ ⟨#[48]⟩ := by
  intro e
  subst e
  have h1 := h.text
  have h2 : bytes ⟨#[48]⟩ = Lib.itoa 0 := by rw [itoa_nonneg (by omega)]; exact dec0'.symm
  rw [h2] at h1
  exact hy (itoa_inj h1).symm

theorem sign_any (s : ByteArray) (w : World) (hs : s.size ≤ 9223372036854775807) :
    Calls Tryd.prog 41 #[.string s] w fun e w' => e = .returned (cmpR (bytes s) [48]) ∧ w' = w := by
  have C := fun W => compareZ_any s ⟨#[48]⟩ W hs (by decide)
  rw [show bytes ⟨#[48]⟩ = [48] from rfl] at C
  obtain ⟨r, e0, h, -, -⟩ := cmpR_parts (bytes s) [48]
  rw [h] at C ⊢
  have KC := Lib.hid C; clear C h hs
  go_enter Tryd.func41, Tryd.ntmps41
  go_wp2_with (go_at_call 36; refine (KC.out _).mono ?_; rintro e w1 ⟨rfl, rfl⟩; refine Hid.out ?_)
  refine Lib.hid ?_
  go_wp2
  refine bodyPost_ret (by simp [results, Tryd.results41, go_sem]; rfl) rfl ?_
  exact ⟨rfl, rfl⟩

theorem ordZ_str {s t : ByteArray} {x y : Int} (hs : Str s x) (ht : Str t y) : ordZ (bytes s) (bytes t) = cmpI x y := by
  rw [hs.text, ht.text]; exact ordZ_itoa x y

theorem compareS (s t : ByteArray) (x y : Int) (w : World) (hs : Str s x) (ht : Str t y) :
    Calls Tryd.prog 36 #[.string s, .string t] w fun e w' => e = .returned (.tuple #[.int .i64 (cmpI x y), .int .i64 0]) ∧ w' = w := by
  have h1 := hs.size; have h2 := ht.size
  have := compareZ_any s t w (by omega) (by omega)
  unfold cmpR at this
  have hb : errBoth (bytes s) (bytes t) = 0 := by unfold errBoth; rw [if_pos hs.err, ht.err]
  rwa [hb, if_pos rfl, ordZ_str hs ht] at this

theorem str_zero : Str ⟨#[48]⟩ 0 := ⟨by rw [itoa_nonneg (by omega)]; exact dec0'.symm, by rw [show ((0 : Int).natAbs) = 0 from rfl, dec0']; decide⟩

theorem signS (s : ByteArray) (x : Int) (w : World) (hs : Str s x) :
    Calls Tryd.prog 41 #[.string s] w fun e w' => e = .returned (.tuple #[.int .i64 (cmpI x 0), .int .i64 0]) ∧ w' = w := by
  have h1 := hs.size
  have := sign_any s w (by omega)
  unfold cmpR at this
  have hb : errBoth (bytes s) [48] = 0 := by unfold errBoth; rw [if_pos hs.err]; rfl
  rw [hb, if_pos rfl] at this
  have e : ordZ (bytes s) [48] = cmpI x 0 := ordZ_str hs str_zero
  rwa [e] at this

theorem str_lit {s : ByteArray} {z : Int} (h1 : canonB (bytes s) = true) (h2 : valZ (bytes s) = z) (h3 : (digL (bytes s)).length ≤ 4096) : Str s z := by
  have e : bytes s = Lib.itoa z := by rw [← h2]; exact itoa_valZ h1
  refine ⟨e, ?_⟩
  rw [e, digL_itoa] at h3
  exact h3

theorem lit_str {s : ByteArray} {z : Int} (h : Str s z) : str (Lib.itoa z) = s := by rw [← h.text, str_bytes]

/-- A string that Check passes is its integer's notation. -/
theorem str_of_err {s : ByteArray} (h : errOf (bytes s) = 0) : Str s (valZ (bytes s)) := by
  unfold errOf at h
  cases hc : canonB (bytes s)
  · rw [hc] at h; simp at h
  · rw [hc, if_pos rfl] at h
    refine str_lit hc rfl ?_
    by_cases hl : 4096 < (digL (bytes s)).length
    · rw [if_pos hl] at h; cases h
    · omega

def digFrom (s : ByteArray) (f : Nat) : Bool := ((bytes s).drop f).all isDig

theorem digFrom_true {s : ByteArray} {f : Nat} (h : ∀ j, f ≤ j → j < s.size → 48 ≤ byteAt s j ∧ byteAt s j ≤ 57) : digFrom s f = true := by
  unfold digFrom
  rw [List.all_eq_true]
  intro c hc
  obtain ⟨i, hi, rfl⟩ := List.mem_iff_getElem.1 hc
  rw [List.length_drop] at hi
  rw [List.getElem_drop]
  have hlt : f + i < s.size := by rw [bytes_length] at hi; omega
  have := h (f + i) (by omega) hlt
  exact (isDig_byte s (f + i) hlt).trans (by simp [this.1, this.2])

theorem digFrom_false {s : ByteArray} {f j : Nat} (h1 : f ≤ j) (h2 : j < s.size) (h : ¬ (48 ≤ byteAt s j ∧ byteAt s j ≤ 57)) : digFrom s f = false := by
  cases hd : digFrom s f
  · rfl
  · exfalso
    unfold digFrom at hd
    rw [List.all_eq_true] at hd
    have hlt : j - f < ((bytes s).drop f).length := by rw [List.length_drop, bytes_length]; omega
    have := hd _ (List.getElem_mem hlt)
    rw [List.getElem_drop] at this
    have e : f + (j - f) = j := by omega
    simp only [e] at this
    have e2 := (isDig_byte s j h2).symm.trans this
    simp at e2
    exact h e2

/-- What Form tells, by its cases. -/
theorem canon_zero : canonB [48] = true := by decide

theorem canon_nil : canonB [] = false := by decide

theorem byte0 {s : ByteArray} {c : UInt8} {t : List UInt8} (h : bytes s = c :: t) : byteAt s 0 = c.toNat := by unfold byteAt; rw [h]; rfl

theorem byte1 {s : ByteArray} {c d : UInt8} {t : List UInt8} (h : bytes s = c :: d :: t) : byteAt s 1 = d.toNat := by unfold byteAt; rw [h]; rfl

theorem canon_plain {s : ByteArray} (h0 : 0 < s.size) (hn : byteAt s 0 ≠ 45) (hne : s ≠ ⟨#[48]⟩) : canonB (bytes s) = (!decide (byteAt s 0 = 48) && digFrom s 0) := by
  have hl : (bytes s).length = s.size := rfl
  match hb : bytes s, hl with
  | [], hl => simp at hl; omega
  | c :: t, hl =>
    have e0 := byte0 hb
    have hneg : negB (c :: t) = false := by
      cases h : negB (c :: t)
      · rfl
      · exfalso
        unfold negB Lib.hasPrefix at h
        have : c = 45 := by simpa using (by simpa [List.isPrefixOf] using h : 45 = c).symm
        subst this
        exact hn e0
    have hd : digL (c :: t) = c :: t := by
      rcases neg_cases (c :: t) with ⟨h, -⟩ | ⟨-, h⟩
      · rw [hneg] at h; cases h
      · exact h
    unfold canonB digFrom
    rw [hd, hb, List.drop_zero, e0]
    by_cases h48 : c = 48
    · subst h48
      have h1 : 1 < (48 :: t).length := by
        rcases Nat.lt_or_ge 1 ((48 : UInt8) :: t).length with h | h
        · exact h
        · exfalso
          have ht : t = [] := by simpa using h
          subst ht
          exact hne (ByteArray.ext (Array.ext' hb))
      rw [decide_eq_true h1]
      simp
    · have : ¬ c.toNat = 48 := fun h => h48 (UInt8.toNat_inj.1 (by rw [h]; rfl))
      simp [h48, this]

theorem canon_minus {s : ByteArray} (h1 : 1 < s.size) (hn : byteAt s 0 = 45) : canonB (bytes s) = (!decide (byteAt s 1 = 48) && digFrom s 1) := by
  have hl : (bytes s).length = s.size := rfl
  match hb : bytes s, hl with
  | [], hl => simp at hl; omega
  | [c], hl => simp at hl; omega
  | c :: d :: t, hl =>
    have e0 := byte0 hb
    have e1 := byte1 hb
    have : c = 45 := UInt8.toNat_inj.1 (by rw [← e0, hn]; rfl)
    subst this
    unfold canonB digFrom
    rw [dig_cons, hb, e1]
    by_cases h48 : d = 48
    · subst h48; simp
    · have : ¬ d.toNat = 48 := fun h => h48 (UInt8.toNat_inj.1 (by rw [h]; rfl))
      simp [h48, this]

theorem canon_dash {s : ByteArray} (h1 : s.size = 1) (hn : byteAt s 0 = 45) : canonB (bytes s) = false := by
  have hl : (bytes s).length = s.size := rfl
  match hb : bytes s, hl with
  | [], hl => simp at hl; omega
  | [c], hl =>
    have e0 := byte0 hb
    have : c = 45 := UInt8.toNat_inj.1 (by rw [← e0, hn]; rfl)
    subst this; decide
  | c :: d :: t, hl => simp at hl; omega

set_option maxHeartbeats 4000000 in
theorem form_any (s : ByteArray) (w : World) (hs : s.size ≤ 9223372036854775807) :
    Calls Tryd.prog 56 #[.string s] w fun e w' => e = .returned (.bool (canonB (bytes s))) ∧ w' = w := by
  by_cases hz : s = ⟨#[48]⟩
  · subst hz
    rw [show bytes ⟨#[48]⟩ = [48] from rfl, canon_zero]
    clear hs
    go_enter Tryd.func56, Tryd.ntmps56
    go_wp2
    go_ret
    exact ⟨rfl, rfl⟩
  · have hd := eq48 s hz
    by_cases h0 : s.size = 0
    · have hq : canonB (bytes s) = false := by rw [List.length_eq_zero_iff.1 (show (bytes s).length = 0 from h0)]; exact canon_nil
      rw [hq]
      clear hz hq
      go_enter Tryd.func56, Tryd.ntmps56
      go_wp2
      go_ret
      exact ⟨rfl, rfl⟩
    · have hpos : 0 < s.size := by omega
      have g0 := byteAt_get s 0 hpos
      by_cases hm : byteAt s 0 = 45
      · by_cases h1 : s.size = 1
        · rw [canon_dash h1 hm]
          rw [hm] at g0
          clear hz hm
          go_enter Tryd.func56, Tryd.ntmps56
          go_wp2
          go_ret
          exact ⟨rfl, rfl⟩
        · have h1' : 1 < s.size := by omega
          have g1 := byteAt_get s 1 h1'
          have hq := canon_minus h1' hm
          rw [hm] at g0
          generalize hb1 : byteAt s 1 = b1 at *
          by_cases h48 : b1 = 48
          · subst h48
            rw [hq]
            clear hz hm hq hb1
            go_enter Tryd.func56, Tryd.ntmps56
            go_wp2
            go_ret
            exact ⟨rfl, rfl⟩
          · have hq2 : canonB (bytes s) = digFrom s 1 := by rw [hq]; simp [h48]
            rw [hq2]
            have t1 : ((1 : Int) == (s.size : Int)) = false := by rw [beq_eq_false_iff_ne]; omega
            have t2 : ((b1 : Int) == 48) = false := by rw [beq_eq_false_iff_ne]; omega
            clear hz hm hq hq2 hb1 h48
            go_enter Tryd.func56, Tryd.ntmps56
            go_wp2_with fail
            clear g0 g1 hd t1 t2
            go_loop [4] (fun iv => ∃ k : Nat, 1 ≤ k ∧ k ≤ s.size ∧ iv = .int .i64 k ∧ ∀ j, 1 ≤ j → j < k → 48 ≤ byteAt s j ∧ byteAt s j ≤ 57) (fun iv => s.size - (intOf iv).toNat)
            case atStart => exact ⟨1, Nat.le_refl _, by omega, rfl, fun j h1 h2 => by omega⟩
            case round =>
              obtain ⟨k, hk1, hk, rfl, hall⟩ := hrel
              have HALL := Lib.hid hall; clear hall
              by_cases hlt : k < s.size
              · have hgk := byteAt_get s k hlt
                by_cases hdk : 48 ≤ byteAt s k ∧ byteAt s k ≤ 57
                · have e1 : ∀ j, 1 ≤ j → j < k + 1 → 48 ≤ byteAt s j ∧ byteAt s j ≤ 57 := fun j h1 h2 => by
                    by_cases hj : j = k
                    · subst hj; exact hdk
                    · exact HALL.out j h1 (by omega)
                  have E1 := Lib.hid e1; clear e1
                  obtain ⟨hd1, hd2⟩ := hdk
                  generalize byteAt s k = b at *
                  go_wp2
                  go_round
                  case rel => exact ⟨k + 1, by omega, by omega, by go_num, E1.out⟩
                  case measure => simp [intOf]; omega
                · have e1 : digFrom s 1 = false := digFrom_false hk1 hlt hdk
                  have E1 := Lib.hid e1; clear e1
                  have hdd : byteAt s k < 48 ∨ (¬ byteAt s k < 48 ∧ 57 < byteAt s k) := by omega
                  clear hdk
                  generalize byteAt s k = b at *
                  rcases hdd with hdd | ⟨hdd, hde⟩
                  all_goals
                    go_wp2
                    go_ret
                    exact ⟨ret_bool E1.out.symm, rfl⟩
              · have hkn : k = s.size := by omega
                subst hkn
                have e1 : digFrom s 1 = true := digFrom_true HALL.out
                have E1 := Lib.hid e1; clear e1
                go_wp2
                go_ret
                exact ⟨ret_bool E1.out.symm, rfl⟩
      · have hq := canon_plain hpos hm hz
        generalize hb0 : byteAt s 0 = b0 at *
        have hm' : b0 ≠ 45 := hm
        by_cases h48 : b0 = 48
        · subst h48
          rw [hq]
          clear hz hm hq hb0
          go_enter Tryd.func56, Tryd.ntmps56
          go_wp2
          go_ret
          exact ⟨rfl, rfl⟩
        · have hq2 : canonB (bytes s) = digFrom s 0 := by rw [hq]; simp [h48]
          rw [hq2]
          have t1 : ((0 : Int) == (s.size : Int)) = false := by rw [beq_eq_false_iff_ne]; omega
          have t2 : ((b0 : Int) == 48) = false := by rw [beq_eq_false_iff_ne]; omega
          have t3 : ((b0 : Int) == 45) = false := by rw [beq_eq_false_iff_ne]; omega
          clear hz hm hm' hq hq2 hb0 h48
          go_enter Tryd.func56, Tryd.ntmps56
          go_wp2_with fail
          clear g0 hd t1 t2 t3
          go_loop [4] (fun iv => ∃ k : Nat, 0 ≤ k ∧ k ≤ s.size ∧ iv = .int .i64 k ∧ ∀ j, 0 ≤ j → j < k → 48 ≤ byteAt s j ∧ byteAt s j ≤ 57) (fun iv => s.size - (intOf iv).toNat)
          case atStart => exact ⟨0, Nat.le_refl _, by omega, rfl, fun j h1 h2 => by omega⟩
          case round =>
            obtain ⟨k, hk1, hk, rfl, hall⟩ := hrel
            have HALL := Lib.hid hall; clear hall
            by_cases hlt : k < s.size
            · have hgk := byteAt_get s k hlt
              by_cases hdk : 48 ≤ byteAt s k ∧ byteAt s k ≤ 57
              · have e1 : ∀ j, 0 ≤ j → j < k + 1 → 48 ≤ byteAt s j ∧ byteAt s j ≤ 57 := fun j h1 h2 => by
                  by_cases hj : j = k
                  · subst hj; exact hdk
                  · exact HALL.out j h1 (by omega)
                have E1 := Lib.hid e1; clear e1
                obtain ⟨hd1, hd2⟩ := hdk
                generalize byteAt s k = b at *
                go_wp2
                go_round
                case rel => exact ⟨k + 1, by omega, by omega, by go_num, E1.out⟩
                case measure => simp [intOf]; omega
              · have e1 : digFrom s 0 = false := digFrom_false hk1 hlt hdk
                have E1 := Lib.hid e1; clear e1
                have hdd : byteAt s k < 48 ∨ (¬ byteAt s k < 48 ∧ 57 < byteAt s k) := by omega
                clear hdk
                generalize byteAt s k = b at *
                rcases hdd with hdd | ⟨hdd, hde⟩
                all_goals
                  go_wp2
                  go_ret
                  exact ⟨ret_bool E1.out.symm, rfl⟩
            · have hkn : k = s.size := by omega
              subst hkn
              have e1 : digFrom s 0 = true := digFrom_true HALL.out
              have E1 := Lib.hid e1; clear e1
              go_wp2
              go_ret
              exact ⟨ret_bool E1.out.symm, rfl⟩

theorem negative_any (s : ByteArray) (w : World) (h0 : 0 < s.size) :
    Calls Tryd.prog 58 #[.string s] w fun e w' => e = .returned (.bool (decide (byteAt s 0 = 45))) ∧ w' = w := by
  have g0 := byteAt_get s 0 h0
  generalize byteAt s 0 = b at *
  go_enter Tryd.func58, Tryd.ntmps58
  go_wp2
  go_ret
  refine ⟨ret_bool ?_, rfl⟩
  rw [Bool.eq_iff_iff]
  simp only [beq_iff_eq, decide_eq_true_eq]
  omega

theorem digits_len {s : ByteArray} (h0 : 0 < s.size) : (digL (bytes s)).length = if byteAt s 0 = 45 then s.size - 1 else s.size := by
  have hl : (bytes s).length = s.size := rfl
  match hb : bytes s, hl with
  | [], hl => simp at hl; omega
  | c :: t, hl =>
    have e0 := byte0 hb
    by_cases hc : c = 45
    · subst hc
      rw [dig_cons, if_pos (by rw [e0]; rfl)]
      simp at hl; omega
    · have hne : ¬ byteAt s 0 = 45 := by rw [e0]; exact fun h => hc (UInt8.toNat_inj.1 (by rw [h]; rfl))
      have hneg : negB (c :: t) = false := by
        cases h : negB (c :: t)
        · rfl
        · exfalso
          unfold negB Lib.hasPrefix at h
          exact hc (by simpa using (by simpa [List.isPrefixOf] using h : 45 = c).symm)
      rw [if_neg hne]
      rcases neg_cases (c :: t) with ⟨h, -⟩ | ⟨-, h⟩
      · rw [hneg] at h; cases h
      · rw [h]; exact hl

theorem refDigits_any (s : ByteArray) (w : World) (h0 : 0 < s.size) (hs : s.size ≤ 9223372036854775807) :
    Calls Tryd.prog 57 #[.string s] w fun e w' => e = .returned (.int .i64 ((digL (bytes s)).length : Nat)) ∧ w' = w := by
  have C := fun W => negative_any s W h0
  rw [digits_len h0]
  by_cases h : byteAt s 0 = 45
  · rw [if_pos h]
    rw [decide_eq_true h] at C
    have KC := Lib.hid C; clear C h
    go_enter Tryd.func57, Tryd.ntmps57
    go_wp2_with (go_at_call 58; refine (KC.out _).mono ?_; rintro e w1 ⟨rfl, rfl⟩; refine Hid.out ?_)
    refine Lib.hid ?_
    go_wp2
    go_ret
    exact ⟨ret_int (by omega), rfl⟩
  · rw [if_neg h]
    rw [decide_eq_false h] at C
    have KC := Lib.hid C; clear C h
    go_enter Tryd.func57, Tryd.ntmps57
    go_wp2_with (go_at_call 58; refine (KC.out _).mono ?_; rintro e w1 ⟨rfl, rfl⟩; refine Hid.out ?_)
    refine Lib.hid ?_
    go_wp2
    go_ret
    exact ⟨rfl, rfl⟩

theorem refCheck_any (s : ByteArray) (w : World) (hs : s.size ≤ 9223372036854775807) :
    Calls Tryd.prog 42 #[.string s] w fun e w' => e = .returned (.int .i64 (errOf (bytes s) : Nat)) ∧ w' = w := by
  have C1 := fun W => form_any s W hs
  have C2 : canonB (bytes s) = true → ∀ W, Calls Tryd.prog 57 #[.string s] W fun e w' => e = .returned (.int .i64 ((digL (bytes s)).length : Nat)) ∧ w' = W := fun hc W => refDigits_any s W (by
    rcases Nat.eq_zero_or_pos s.size with h | h
    · exfalso
      rw [List.length_eq_zero_iff.1 (show (bytes s).length = 0 from h)] at hc
      exact absurd hc (by decide)
    · exact h) hs
  have he : errOf (bytes s) = if canonB (bytes s) = true then (if 4096 < (digL (bytes s)).length then 10 else 0) else 3 := rfl
  rw [he]
  cases hc : canonB (bytes s)
  · rw [hc] at C1
    have K1 := Lib.hid C1; clear C1 C2 he hc
    rw [if_neg (by simp)]
    go_enter Tryd.func42, Tryd.ntmps42
    go_wp2_with (go_at_call 56; refine (K1.out _).mono ?_; rintro e w1 ⟨rfl, rfl⟩; refine Hid.out ?_)
    refine Lib.hid ?_
    go_wp2
    go_ret
    exact ⟨rfl, rfl⟩
  · rw [hc] at C1
    have C2' := C2 hc
    have K1 := Lib.hid C1; have K2 := Lib.hid C2'; clear C1 C2 C2' he hc
    rw [if_pos rfl]
    generalize (digL (bytes s)).length = n at *
    by_cases hn : 4096 < n
    · rw [if_pos hn]
      go_enter Tryd.func42, Tryd.ntmps42
      go_wp2_with (go_at_call 56; refine (K1.out _).mono ?_; rintro e w1 ⟨rfl, rfl⟩; refine Hid.out ?_)
      refine Lib.hid ?_
      go_wp2_with (go_at_call 57; refine (K2.out _).mono ?_; rintro e w1 ⟨rfl, rfl⟩; refine Hid.out ?_)
      refine Lib.hid ?_
      go_wp2
      go_ret
      exact ⟨rfl, rfl⟩
    · rw [if_neg hn]
      go_enter Tryd.func42, Tryd.ntmps42
      go_wp2_with (go_at_call 56; refine (K1.out _).mono ?_; rintro e w1 ⟨rfl, rfl⟩; refine Hid.out ?_)
      refine Lib.hid ?_
      go_wp2_with (go_at_call 57; refine (K2.out _).mono ?_; rintro e w1 ⟨rfl, rfl⟩; refine Hid.out ?_)
      refine Lib.hid ?_
      go_wp2
      go_ret
      exact ⟨rfl, rfl⟩

theorem refFew_any (s : ByteArray) (w : World) (hs : s.size ≤ 9223372036854775807) :
    Calls Tryd.prog 9 #[.string s] w fun e w' => e = .returned (.bool (decide (s.size ≤ 250))) ∧ w' = w := by
  go_enter Tryd.func9, Tryd.ntmps9
  go_wp2
  go_ret
  exact ⟨ret_bool (by simp; omega), rfl⟩

theorem Str.pos {s : ByteArray} {x : Int} (h : Str s x) : 0 < s.size := by
  rcases Nat.eq_zero_or_pos s.size with h0 | h0
  · exfalso
    have h1 : bytes s = [] := List.length_eq_zero_iff.1 h0
    have h2 := canonB_itoa x
    rw [← h.text, h1] at h2
    exact absurd h2 (by decide)
  · exact h0

theorem Str.first {s : ByteArray} {x : Int} (h : Str s x) : decide (byteAt s 0 = 45) = decide (x < 0) := by
  rw [← negB_itoa x, ← h.text]
  have hp := h.pos
  have hl : (bytes s).length = s.size := rfl
  match hb : bytes s, hl with
  | [], hl => simp at hl; omega
  | c :: t, hl =>
    have e0 := byte0 hb
    rw [e0]
    unfold negB Lib.hasPrefix
    rw [Bool.eq_iff_iff, decide_eq_true_eq]
    simp only [List.isPrefixOf, Bool.and_true, beq_iff_eq]
    exact ⟨fun h => (UInt8.toNat_inj.1 (by rw [h]; rfl)).symm, fun h => by rw [← h]; rfl⟩

theorem refSign_any (s : ByteArray) (x : Int) (w : World) (hs : Str s x) :
    Calls Tryd.prog 44 #[.string s] w fun e w' => e = .returned (.int .i64 (cmpI x 0)) ∧ w' = w := by
  by_cases h0 : x = 0
  · subst h0
    have hz : s = ⟨#[48]⟩ := by have h1 := lit_str hs; have h2 := lit_str str_zero; exact h1.symm.trans h2
    subst hz
    clear hs
    go_enter Tryd.func44, Tryd.ntmps44
    go_wp2
    go_ret
    exact ⟨rfl, rfl⟩
  · have hd := eq48 s (hs.ne_zero h0)
    have C := fun W => negative_any s W hs.pos
    rw [hs.first] at C
    by_cases hx : x < 0
    · rw [decide_eq_true hx] at C
      have hc : cmpI x 0 = -1 := by unfold cmpI; rw [if_pos hx]
      rw [hc]
      have KC := Lib.hid C; clear C hs h0 hx hc
      go_enter Tryd.func44, Tryd.ntmps44
      go_wp2_with (go_at_call 58; refine (KC.out _).mono ?_; rintro e w1 ⟨rfl, h⟩; subst h; refine Hid.out ?_)
      refine Lib.hid ?_
      go_wp2
      go_ret
      exact ⟨rfl, rfl⟩
    · rw [decide_eq_false hx] at C
      have hc : cmpI x 0 = 1 := by unfold cmpI; rw [if_neg hx, if_neg h0]
      rw [hc]
      have KC := Lib.hid C; clear C hs h0 hx hc
      go_enter Tryd.func44, Tryd.ntmps44
      go_wp2_with (go_at_call 58; refine (KC.out _).mono ?_; rintro e w1 ⟨rfl, h⟩; subst h; refine Hid.out ?_)
      refine Lib.hid ?_
      go_wp2
      go_ret
      exact ⟨rfl, rfl⟩

end Go.Proofs.YtmnbjkbkjmgmkaaDoor
