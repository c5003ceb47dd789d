import Derived.Lib.Strings
import Derived.Lib.ItoaNum
import Derived.Test.YtmnbjkbkjmgmkaaGreatDoorCut1
import Derived.Test.YtmnbjkbkjmgmkaaGreatDoorShelfP
import Derived.Lib.Bytealg
import Derived.RangeFuncNested
import Derived.Test.YtmnbjkbkjmgmkaaGreatDoorOwnIter
import Derived.Lib.AppendIntMem

set_option linter.unusedVariables false
/-
  Integers and their notations.
-/
set_option linter.unusedSimpArgs false
set_option linter.unusedVariables false
namespace Go.Proofs.YtmnbjkbkjmgmkaaGreatDoor
open Go Go.Proofs
def digL (l : List UInt8) : List UInt8 := Lib.trimPrefix l [45]
def negB (l : List UInt8) : Bool := Lib.hasPrefix l [45]
def canonB (l : List UInt8) : Bool := !(digL l).isEmpty && !((digL l).head? == some 48 && decide (1 < l.length)) && (digL l).all isDig
def errOf (l : List UInt8) : Nat := if canonB l = true then (if 4096 < (digL l).length then 10 else 0) else 3
def valZ (l : List UInt8) : Int := if negB l = true then -((dec (digL l) : Nat) : Int) else ((dec (digL l) : Nat) : Int)
theorem neg_cons (l : List UInt8) : negB (45 :: l) = true := by simp [negB, Lib.hasPrefix]
theorem dig_cons (l : List UInt8) : digL (45 :: l) = l := by simp [digL, Lib.trimPrefix, Lib.hasPrefix]
theorem neg_cases (l : List UInt8) : (negB l = true ∧ l = 45 :: digL l) ∨ (negB l = false ∧ digL l = l) := by
  cases h : negB l
  · right; unfold negB at h; simp [digL, Lib.trimPrefix, h]
  · left
    refine ⟨rfl, ?_⟩
    unfold negB Lib.hasPrefix at h
    match l, h with
    | [], h => simp at h
    | c :: t, h =>
      have : c = 45 := by simpa using (by simpa [List.isPrefixOf] using h : 45 = c).symm
      subst this
      rw [dig_cons]
theorem not_neg_dig {l : List UInt8} (h : AllDig l) : negB l = false := by
  cases hn : negB l
  · rfl
  · unfold negB Lib.hasPrefix at hn
    match l, hn with
    | [], hn => simp at hn
    | c :: t, hn =>
      have : c = 45 := by simpa using (by simpa [List.isPrefixOf] using hn : 45 = c).symm
      subst this
      exact absurd (h 45 (List.mem_cons_self ..)) (by decide)
theorem dig_of_dig {l : List UInt8} (h : AllDig l) : digL l = l := by
  rcases neg_cases l with ⟨h1, -⟩ | ⟨-, h2⟩
  · rw [not_neg_dig h] at h1; cases h1
  · exact h2
theorem itoa_neg {z : Int} (h : z < 0) : Lib.itoa z = 45 :: Lib.decDigits z.natAbs := by unfold Lib.itoa; rw [if_pos h]
theorem itoa_nonneg {z : Int} (h : ¬ z < 0) : Lib.itoa z = Lib.decDigits z.natAbs := by
  unfold Lib.itoa; rw [if_neg h]; congr 1; omega
theorem negB_itoa (z : Int) : negB (Lib.itoa z) = decide (z < 0) := by
  by_cases h : z < 0
  · rw [itoa_neg h, neg_cons, decide_eq_true h]
  · rw [itoa_nonneg h, not_neg_dig (allDig_decDigits _), decide_eq_false h]
theorem digL_itoa (z : Int) : digL (Lib.itoa z) = Lib.decDigits z.natAbs := by
  by_cases h : z < 0
  · rw [itoa_neg h, dig_cons]
  · rw [itoa_nonneg h, dig_of_dig (allDig_decDigits _)]
theorem valZ_itoa (z : Int) : valZ (Lib.itoa z) = z := by
  unfold valZ
  rw [negB_itoa, digL_itoa, dec_decDigits]
  by_cases h : z < 0
  · rw [decide_eq_true h, if_pos rfl]; omega
  · rw [decide_eq_false h, if_neg (by simp)]; omega
theorem itoa_inj {a b : Int} (h : Lib.itoa a = Lib.itoa b) : a = b := by rw [← valZ_itoa a, h, valZ_itoa]
theorem head?_decDigits (u : Nat) (hu : u ≠ 0) : (Lib.decDigits u).head? ≠ some 48 := by
  rw [List.head?_eq_some_head (decDigits_ne_nil u)]
  intro e
  exact decDigits_head u hu (Option.some.inj e)
theorem dec0' : Lib.decDigits 0 = [48] := (eq_decDigits (l := [48]) (by intro c hc; simp at hc; subst hc; rfl) (by simp) (.inl rfl)).symm
theorem canonB_itoa (z : Int) : canonB (Lib.itoa z) = true := by
  unfold canonB
  rw [digL_itoa]
  have h1 : (Lib.decDigits z.natAbs).isEmpty = false := by
    cases he : (Lib.decDigits z.natAbs).isEmpty
    · rfl
    · exact absurd (List.isEmpty_iff.1 he) (decDigits_ne_nil _)
  have h2 : (Lib.decDigits z.natAbs).all isDig = true := List.all_eq_true.2 (allDig_decDigits _)
  rw [h1, h2]
  by_cases h0 : z = 0
  · subst h0
    rw [itoa_nonneg (by omega)]
    simp [dec0']
  · have := head?_decDigits z.natAbs (by omega)
    simp [this]
theorem itoa_valZ {l : List UInt8} (h : canonB l = true) : l = Lib.itoa (valZ l) := by
  unfold canonB at h
  simp only [Bool.and_eq_true, Bool.not_eq_true', Bool.and_eq_false_iff, beq_eq_false_iff_ne, decide_eq_false_iff_not] at h
  obtain ⟨⟨h1, h2⟩, h3⟩ := h
  have hne : digL l ≠ [] := fun e => by rw [e] at h1; simp at h1
  have hd : AllDig (digL l) := List.all_eq_true.1 h3
  have hlen : 0 < (digL l).length := List.length_pos_iff.2 hne
  rcases neg_cases l with ⟨hn, hl⟩ | ⟨hn, hl⟩
  · have hl2 : l.length = (digL l).length + 1 := by rw [congrArg List.length hl]; simp
    have hh : (digL l).head hne ≠ 48 := by
      rcases h2 with h2 | h2
      · intro e; exact h2 (by rw [List.head?_eq_some_head hne, e])
      · omega
    have e := eq_decDigits hd hne (.inr hh)
    have hpos : dec (digL l) ≠ 0 := by
      intro e0
      rw [e0, dec0'] at e
      have : (digL l).head? = some 48 := by rw [e]; rfl
      rw [List.head?_eq_some_head hne] at this
      exact hh (Option.some.inj this)
    unfold valZ
    rw [hn, if_pos rfl, itoa_neg (by omega)]
    rw [Int.natAbs_neg, Int.natAbs_natCast, ← e]
    exact hl
  · have h0 : digL l = [48] ∨ (digL l).head hne ≠ 48 := by
      rcases h2 with h2 | h2
      · right; intro e; exact h2 (by rw [List.head?_eq_some_head hne, e])
      · by_cases hz : (digL l).head hne = 48
        · left
          rw [hl] at hlen
          match l, h2, hlen with
          | [c], _, _ =>
            simp only [hl] at hz ⊢
            simpa using hz
          | c :: d :: t, h2, _ => exact absurd (by simp : 1 < (c :: d :: t).length) h2
        · exact .inr hz
    have e := eq_decDigits hd hne h0
    unfold valZ
    rw [hn, if_neg (by simp), itoa_nonneg (by omega), Int.natAbs_natCast, ← e]
    exact hl.symm
theorem errOf_itoa (z : Int) (h : (Lib.decDigits z.natAbs).length ≤ 4096) : errOf (Lib.itoa z) = 0 := by
  unfold errOf
  rw [canonB_itoa, if_pos rfl, digL_itoa, if_neg (by omega)]
end Go.Proofs.YtmnbjkbkjmgmkaaGreatDoor

set_option linter.unusedSimpArgs false
set_option linter.unusedVariables false
namespace Go.Proofs.YtmnbjkbkjmgmkaaGreatDoor
open Go Go.Proofs Go.RowKit
def str (l : List UInt8) : ByteArray := ⟨l.toArray⟩
theorem bytes_str (l : List UInt8) : bytes (str l) = l := by simp [bytes, str]
theorem str_bytes (s : ByteArray) : str (bytes s) = s := by simp [bytes, str]
theorem str_size (l : List UInt8) : (str l).size = l.length := by simp [str, ByteArray.size]
theorem isNegative_any (s : ByteArray) (w : World) :
    Calls Tryz.prog 87 #[.string s] w fun e w' => e = .returned (.bool (negB (bytes s))) ∧ w' = w := by
  have C : ∀ W : World, Calls Tryz.prog 107 #[.string s, .string ⟨#[45]⟩] W fun e w' => e = .returned (.bool (negB (bytes s))) ∧ w' = W := fun W => Tryz.strings_HasPrefix s ⟨#[45]⟩ W
  generalize negB (bytes s) = r at *
  go_enter Tryz.func87, Tryz.ntmps87
  go_wp2_with (go_at_call 107; refine (C _).mono ?_; rintro e w1 ⟨rfl, rfl⟩)
  go_ret
  exact ⟨rfl, rfl⟩
theorem digits_any (s : ByteArray) (w : World) :
    Calls Tryz.prog 84 #[.string s] w fun e w' => e = .returned (.string (str (digL (bytes s)))) ∧ w' = w := by
  have C : ∀ W : World, Calls Tryz.prog 102 #[.string s, .string ⟨#[45]⟩] W fun e w' => e = .returned (.string (str (digL (bytes s)))) ∧ w' = W := fun W => Tryz.strings_TrimPrefix s ⟨#[45]⟩ W
  generalize str (digL (bytes s)) = r at *
  go_enter Tryz.func84, Tryz.ntmps84
  go_wp2_with (go_at_call 102; refine (C _).mono ?_; rintro e w1 ⟨rfl, rfl⟩)
  go_ret
  exact ⟨rfl, rfl⟩
theorem isLong_any (s : ByteArray) (w : World) (hs : s.size ≤ 9223372036854775807) :
    Calls Tryz.prog 57 #[.string s] w fun e w' => e = .returned (.bool (decide (4096 < (digL (bytes s)).length))) ∧ w' = w := by
  have C := digits_any s
  rw [← str_size (digL (bytes s))]
  generalize str (digL (bytes s)) = r at *
  go_enter Tryz.func57, Tryz.ntmps57
  go_wp2_with (go_at_call 84; refine (C _).mono ?_; rintro e w1 ⟨rfl, rfl⟩)
  go_ret
  exact ⟨ret_bool (by simp; omega), rfl⟩
theorem isShort_any (s : ByteArray) (w : World) (hs : s.size ≤ 9223372036854775807) :
    Calls Tryz.prog 52 #[.string s] w fun e w' => e = .returned (.bool (decide ((digL (bytes s)).length ≤ 9))) ∧ w' = w := by
  have C := digits_any s
  rw [← str_size (digL (bytes s))]
  generalize str (digL (bytes s)) = r at *
  go_enter Tryz.func52, Tryz.ntmps52
  go_wp2_with (go_at_call 84; refine (C _).mono ?_; rintro e w1 ⟨rfl, rfl⟩)
  go_ret
  exact ⟨ret_bool (by simp; omega), rfl⟩
set_option maxHeartbeats 1000000 in
theorem isCanonical_any (s : ByteArray) (w : World) (hs : s.size ≤ 9223372036854775807) :
    Calls Tryz.prog 93 #[.string s] w fun e w' => e = .returned (.bool (canonB (bytes s))) ∧ w' = w := by
  have C := digits_any s
  have hb := bytes_str (digL (bytes s))
  have hcan : canonB (bytes s) = (!(digL (bytes s)).isEmpty && !((digL (bytes s)).head? == some 48 && decide (1 < s.size)) && (digL (bytes s)).all isDig) := rfl
  have hle : (digL (bytes s)).length ≤ s.size := by
    show _ ≤ (bytes s).length
    rcases neg_cases (bytes s) with ⟨-, h⟩ | ⟨-, h⟩
    · rw [congrArg List.length h]; simp
    · rw [h]; exact Nat.le_refl _
  generalize hr : str (digL (bytes s)) = r at *
  generalize hL : digL (bytes s) = L at *
  generalize canonB (bytes s) = q at *
  have hrs : L.length = r.size := by rw [← hb]; rfl
  have hrm : r.size ≤ 9223372036854775807 := by omega
  have HC := Lib.hid hcan; have HB := Lib.hid hb; have HCC := Lib.hid C
  clear hcan hb C hr hL
  by_cases h0 : r.size = 0
  · have hl0 : L = [] := List.length_eq_zero_iff.1 (by omega)
    have hrl : r.toList = [] := by rw [Lib.toList_data]; show bytes r = []; rw [HB.out, hl0]
    have hq : q = false := by rw [HC.out, hl0]; rfl
    subst hq
    clear hl0 hrs
    go_enter Tryz.func93, Tryz.ntmps93
    go_wp2_with (go_at_call 84; refine (HCC.out _).mono ?_; rintro e w1 ⟨rfl, rfl⟩)
    go_ret
    exact ⟨rfl, rfl⟩
  · have hrl : (r.toList == []) = false := by
      rw [Lib.toList_data]
      cases h : r.data.toList with
      | nil => exact absurd (congrArg List.length h) (by show ¬ r.size = 0; exact h0)
      | cons a t => rfl
    have hemp : L.isEmpty = false := by
      cases h : L with
      | nil => rw [h] at hrs; simp at hrs; omega
      | cons a t => rfl
    have hpos : 0 < r.size := by omega
    have hhead : (L.head? == some 48) = decide (byteAt r 0 = 48) := by
      unfold byteAt
      rw [HB.out]
      cases h : L with
      | nil => rw [h] at hrs; simp at hrs; omega
      | cons a t =>
        simp only [List.head?_cons, List.getD_cons_zero]
        rw [Bool.eq_iff_iff]
        simp only [beq_iff_eq, Option.some.injEq, decide_eq_true_eq]
        exact ⟨fun h => by rw [h]; rfl, fun h => by apply UInt8.toNat_inj.1; rw [h]; rfl⟩
    have hq : q = (!(decide (byteAt r 0 = 48) && decide (1 < s.size)) && L.all isDig) := by rw [HC.out, hemp, hhead]; rfl
    have HQ := Lib.hid hq
    have hgk := byteAt_get r 0 hpos
    clear hq hhead hemp hrs
    generalize hb0 : byteAt r 0 = b0 at *
    have HB0 := Lib.hid hb0; clear hb0
    by_cases hz : b0 = 48 ∧ 1 < s.size
    · have hqf : q = false := by rw [HQ.out]; simp [hz.1, hz.2]
      subst hqf
      obtain ⟨rfl, hz2⟩ := hz
      go_enter Tryz.func93, Tryz.ntmps93
      go_wp2_with (go_at_call 84; refine (HCC.out _).mono ?_; rintro e w1 ⟨rfl, rfl⟩)
      go_ret
      exact ⟨rfl, rfl⟩
    · have hq2 : q = (bytes r).all isDig := by
        rw [HQ.out, HB.out]
        have : (decide (b0 = 48) && decide (1 < s.size)) = false := by
          rw [Bool.and_eq_false_iff, decide_eq_false_iff_not, decide_eq_false_iff_not]
          omega
        rw [this]; rfl
      have HQ2 := Lib.hid hq2; clear hq2 HQ HC HB
      have hz' : b0 ≠ 48 ∨ (b0 = 48 ∧ ¬ 1 < s.size) := by omega
      clear hz hle
      rcases hz' with hz | ⟨rfl, hz⟩
      all_goals
        go_enter Tryz.func93, Tryz.ntmps93
        go_wp2_with (go_at_call 84; refine (HCC.out _).mono ?_; rintro e w1 ⟨rfl, rfl⟩)
        clear HCC hgk hrl
        go_loop [21] (fun iv => ∃ k : Nat, k ≤ r.size ∧ iv = .int .i64 k ∧ ((bytes r).take k).all isDig = true) (fun iv => r.size - (intOf iv).toNat)
        case atStart => exact ⟨0, Nat.zero_le _, rfl, rfl⟩
        case round =>
          obtain ⟨k, hk, rfl, hall⟩ := hrel
          by_cases hlt : k < r.size
          · have hgk := byteAt_get r k hlt
            have h1 := all_take_succ (bytes r) k hlt
            rw [isDig_byte r k hlt, hall] at h1
            have H1 := Lib.hid h1; have HALL := Lib.hid hall
            clear h1 hall
            generalize byteAt r k = b at *
            by_cases hd : 48 ≤ b ∧ b ≤ 57
            · obtain ⟨hd1, hd2⟩ := hd
              have e1 : (List.take (k + 1) (bytes r)).all isDig = true := by rw [H1.out]; simp [hd1, hd2]
              have E1 := Lib.hid e1; clear e1
              go_wp2
              go_round
              case rel => exact ⟨k + 1, by omega, by go_num, E1.out⟩
              case measure => simp [intOf]; omega
            · have e1 : q = false := by
                rw [HQ2.out]
                have h2 : ((bytes r).take (k + 1)).all isDig = false := by rw [H1.out]; simp; omega
                cases h3 : (bytes r).all isDig
                · rfl
                · rw [List.all_eq_true] at h3
                  rw [List.all_eq_true.2 (fun c hc => h3 c (List.mem_of_mem_take hc))] at h2
                  cases h2
              have E1 := Lib.hid e1; clear e1
              go_wp2
              all_goals first
                | (exfalso; omega)
                | (go_ret; exact ⟨ret_bool E1.out.symm, rfl⟩)
          · have hkn : k = r.size := by omega
            subst hkn
            rw [List.take_of_length_le (l := bytes r) (i := r.size) (Nat.le_refl r.size)] at hall
            have HALL := Lib.hid hall; clear hall
            go_wp2
            go_ret
            exact ⟨ret_bool (by rw [HQ2.out, HALL.out]), rfl⟩
set_option maxHeartbeats 1000000 in
theorem check_any (s : ByteArray) (w : World) (hs : s.size ≤ 9223372036854775807) :
    Calls Tryz.prog 70 #[.string s] w fun e w' => e = .returned (.int .i64 (errOf (bytes s) : Nat)) ∧ w' = w := by
  have C1 := fun W => isCanonical_any s W hs
  have C2 := fun W => isLong_any s W hs
  have he : errOf (bytes s) = if canonB (bytes s) = true then (if decide (4096 < (digL (bytes s)).length) = true then 10 else 0) else 3 := by
    unfold errOf; simp
  generalize errOf (bytes s) = e0 at *
  generalize canonB (bytes s) = c at *
  generalize decide (4096 < (digL (bytes s)).length) = d at *
  cases c
  · have : e0 = 3 := he
    subst this
    clear he C2
    go_enter Tryz.func70, Tryz.ntmps70
    go_wp2_with (go_at_call 93; refine (C1 _).mono ?_; rintro e w1 ⟨rfl, rfl⟩)
    go_ret
    exact ⟨rfl, rfl⟩
  · cases d
    · have : e0 = 0 := he
      subst this
      clear he
      go_enter Tryz.func70, Tryz.ntmps70
      go_wp2_with (first | (go_at_call 93; refine (C1 _).mono ?_; rintro e w1 ⟨rfl, rfl⟩) | (go_at_call 57; refine (C2 _).mono ?_; rintro e w1 ⟨rfl, rfl⟩))
      go_ret
      exact ⟨rfl, rfl⟩
    · have : e0 = 10 := he
      subst this
      clear he
      go_enter Tryz.func70, Tryz.ntmps70
      go_wp2_with (first | (go_at_call 93; refine (C1 _).mono ?_; rintro e w1 ⟨rfl, rfl⟩) | (go_at_call 57; refine (C2 _).mono ?_; rintro e w1 ⟨rfl, rfl⟩))
      go_ret
      exact ⟨rfl, rfl⟩
def errBoth (a b : List UInt8) : Nat := if errOf a = 0 then errOf b else errOf a
theorem errOf_cases (l : List UInt8) : errOf l = 0 ∨ errOf l = 3 ∨ errOf l = 10 := by
  unfold errOf; split
  · split <;> simp
  · simp
set_option maxHeartbeats 1000000 in
theorem checkBoth_any (s t : ByteArray) (w : World) (hs : s.size ≤ 9223372036854775807) (ht : t.size ≤ 9223372036854775807) :
    Calls Tryz.prog 51 #[.string s, .string t] w fun e w' => e = .returned (.int .i64 (errBoth (bytes s) (bytes t) : Nat)) ∧ w' = w := by
  have C1 := fun W => check_any s W hs
  have C2 := fun W => check_any t W ht
  have he : errBoth (bytes s) (bytes t) = if errOf (bytes s) = 0 then errOf (bytes t) else errOf (bytes s) := rfl
  have hc := errOf_cases (bytes s)
  generalize errBoth (bytes s) (bytes t) = e0 at *
  generalize errOf (bytes s) = c at *
  generalize errOf (bytes t) = d at *
  by_cases h0 : c = 0
  · subst h0
    rw [if_pos rfl] at he
    subst he
    clear hc
    go_enter Tryz.func51, Tryz.ntmps51
    go_wp2_with (go_at_call 70; refine (C1 _).mono ?_; rintro e w1 ⟨rfl, rfl⟩; refine Hid.out ?_)
    refine Lib.hid ?_
    go_wp2_with (go_at_call 70; refine (C2 _).mono ?_; rintro e w2 ⟨rfl, rfl⟩)
    go_ret
    exact ⟨rfl, rfl⟩
  · rw [if_neg h0] at he
    subst he
    have hc' : e0 = 3 ∨ e0 = 10 := by omega
    clear hc h0
    rcases hc' with rfl | rfl
    all_goals
      go_enter Tryz.func51, Tryz.ntmps51
      go_wp2_with (go_at_call 70; refine (C1 _).mono ?_; rintro e w1 ⟨rfl, rfl⟩)
      go_ret
      exact ⟨rfl, rfl⟩
end Go.Proofs.YtmnbjkbkjmgmkaaGreatDoor

set_option linter.unusedSimpArgs false
set_option linter.unusedVariables false
namespace Go.Proofs.YtmnbjkbkjmgmkaaGreatDoor
open Go Go.Proofs
theorem cmp_dec : ∀ (a b : List UInt8), a.length = b.length → AllDig a → AllDig b → Lib.compareBytes a b = cmpN (dec a) (dec b)
  | [], [], _, _, _ => rfl
  | [], _ :: _, h, _, _ => by simp at h
  | _ :: _, [], h, _, _ => by simp at h
  | c :: s, d :: t, h, ha, hb => by
    have hl : s.length = t.length := by simpa using h
    have hs : AllDig s := fun y hy => ha y (List.mem_cons_of_mem _ hy)
    have ht : AllDig t := fun y hy => hb y (List.mem_cons_of_mem _ hy)
    have hc := isDig_iff.1 (ha c (List.mem_cons_self ..))
    have hd := isDig_iff.1 (hb d (List.mem_cons_self ..))
    have h1 := dec_lt hs
    have h2 := dec_lt ht
    have e1 : dec (c :: s) = (c.toNat - 48) * 10 ^ s.length + dec s := rfl
    have e2 : dec (d :: t) = (d.toNat - 48) * 10 ^ t.length + dec t := rfl
    rw [e1, e2]
    unfold Lib.compareBytes
    rw [hl] at h1 ⊢
    generalize 10 ^ t.length = p at *
    by_cases hlt : c < d
    · rw [if_pos hlt]
      have hn : c.toNat < d.toNat := UInt8.lt_iff_toNat_lt.1 hlt
      have : (c.toNat - 48 + 1) * p ≤ (d.toNat - 48) * p := Nat.mul_le_mul_right _ (by omega)
      rw [Nat.add_mul, Nat.one_mul] at this
      unfold cmpN
      rw [if_pos (by omega)]
    · rw [if_neg hlt]
      by_cases hgt : d < c
      · rw [if_pos hgt]
        have hn : d.toNat < c.toNat := UInt8.lt_iff_toNat_lt.1 hgt
        have : (d.toNat - 48 + 1) * p ≤ (c.toNat - 48) * p := Nat.mul_le_mul_right _ (by omega)
        rw [Nat.add_mul, Nat.one_mul] at this
        unfold cmpN
        rw [if_neg (by omega), if_neg (by omega)]
      · rw [if_neg hgt]
        have hn1 : ¬ c.toNat < d.toNat := fun e => hlt (UInt8.lt_iff_toNat_lt.2 e)
        have hn2 : ¬ d.toNat < c.toNat := fun e => hgt (UInt8.lt_iff_toNat_lt.2 e)
        have hcd : c.toNat = d.toNat := by omega
        rw [hcd, cmp_dec s t hl hs ht]
        unfold cmpN
        generalize (d.toNat - 48) * p = q
        (repeat' split) <;> omega
def ordL (a b : List UInt8) : Int := if a.length < b.length then -1 else if b.length < a.length then 1 else Lib.compareBytes a b
theorem lt_of_shorter {u v : Nat} (h : (Lib.decDigits u).length < (Lib.decDigits v).length) : u < v := by
  have h1 := dec_lt (allDig_decDigits u)
  rw [dec_decDigits] at h1
  have hk : 1 ≤ (Lib.decDigits u).length := List.length_pos_iff.2 (decDigits_ne_nil u)
  have h2 := pow_le_of_nDigits (u := v) hk (by rwa [← Lib.decDigits_length])
  omega
theorem ordL_dec (u v : Nat) : ordL (Lib.decDigits u) (Lib.decDigits v) = cmpN u v := by
  unfold ordL
  by_cases h1 : (Lib.decDigits u).length < (Lib.decDigits v).length
  · rw [if_pos h1]; unfold cmpN; rw [if_pos (lt_of_shorter h1)]
  · rw [if_neg h1]
    by_cases h2 : (Lib.decDigits v).length < (Lib.decDigits u).length
    · have := lt_of_shorter h2
      rw [if_pos h2]; unfold cmpN; rw [if_neg (by omega), if_neg (by omega)]
    · rw [if_neg h2, cmp_dec _ _ (by omega) (allDig_decDigits _) (allDig_decDigits _), dec_decDigits, dec_decDigits]
def ordZ (a b : List UInt8) : Int :=
  if negB a = true then (if negB b = true then ordL (digL b) (digL a) else -1) else (if negB b = true then 1 else ordL (digL a) (digL b))
theorem ordZ_itoa (x y : Int) : ordZ (Lib.itoa x) (Lib.itoa y) = cmpI x y := by
  unfold ordZ
  rw [negB_itoa, negB_itoa, digL_itoa, digL_itoa, ordL_dec, ordL_dec]
  unfold cmpN cmpI
  by_cases hx : x < 0 <;> by_cases hy : y < 0 <;> simp only [hx, hy, decide_true, decide_false, if_true, if_false, reduceCtorEq] <;> (repeat' split) <;> omega
end Go.Proofs.YtmnbjkbkjmgmkaaGreatDoor

set_option linter.unusedSimpArgs false
set_option linter.unusedVariables false
namespace Go.Proofs.YtmnbjkbkjmgmkaaGreatDoor
open Go Go.Proofs Go.RowKit
set_option maxHeartbeats 1000000 in
theorem orderDigits_any (a b : ByteArray) (w : World) (ha : a.size ≤ 9223372036854775807) (hb : b.size ≤ 9223372036854775807) :
    Calls Tryz.prog 101 #[.string a, .string b] w fun e w' => e = .returned (.int .i64 (ordL (bytes a) (bytes b))) ∧ w' = w := by
  have C : ∀ W : World, Calls Tryz.prog 118 #[.string a, .string b] W fun e w' => e = .returned (.int .i64 (Lib.compareBytes (bytes a) (bytes b))) ∧ w' = W := fun W => Tryz.strings_Compare a b W
  have he : ordL (bytes a) (bytes b) = if a.size < b.size then -1 else if b.size < a.size then 1 else Lib.compareBytes (bytes a) (bytes b) := rfl
  generalize ordL (bytes a) (bytes b) = r at *
  generalize Lib.compareBytes (bytes a) (bytes b) = q at *
  have HE := Lib.hid he; clear he
  by_cases h1 : a.size < b.size
  · have hr : r = -1 := by rw [HE.out, if_pos h1]
    subst hr
    go_enter Tryz.func101, Tryz.ntmps101
    go_wp2
    go_ret
    exact ⟨rfl, rfl⟩
  · by_cases h2 : b.size < a.size
    · have hr : r = 1 := by rw [HE.out, if_neg h1, if_pos h2]
      subst hr
      go_enter Tryz.func101, Tryz.ntmps101
      go_wp2
      go_ret
      exact ⟨rfl, rfl⟩
    · have hr : r = q := by rw [HE.out, if_neg h1, if_neg h2]
      subst hr
      clear HE
      go_enter Tryz.func101, Tryz.ntmps101
      go_wp2_with (go_at_call 118; refine (C _).mono ?_; rintro e w1 ⟨rfl, rfl⟩)
      go_ret
      exact ⟨rfl, rfl⟩
theorem digL_le (l : List UInt8) : (digL l).length ≤ l.length := by
  rcases neg_cases l with ⟨-, h⟩ | ⟨-, h⟩
  · rw [congrArg List.length h]; simp
  · rw [h]; exact Nat.le_refl _
set_option maxHeartbeats 2000000 in
theorem order_any (a b : ByteArray) (w : World) (ha : a.size ≤ 9223372036854775807) (hb : b.size ≤ 9223372036854775807) :
    Calls Tryz.prog 83 #[.string a, .string b] w fun e w' => e = .returned (.int .i64 (ordZ (bytes a) (bytes b))) ∧ w' = w := by
  have CA := isNegative_any a
  have CB := isNegative_any b
  have DA := digits_any a
  have DB := digits_any b
  have ha' : (str (digL (bytes a))).size ≤ 9223372036854775807 := by rw [str_size]; exact Nat.le_trans (digL_le _) ha
  have hb' : (str (digL (bytes b))).size ≤ 9223372036854775807 := by rw [str_size]; exact Nat.le_trans (digL_le _) hb
  have OAB := fun W => orderDigits_any (str (digL (bytes a))) (str (digL (bytes b))) W ha' hb'
  have OBA := fun W => orderDigits_any (str (digL (bytes b))) (str (digL (bytes a))) W hb' ha'
  rw [bytes_str, bytes_str] at OAB OBA
  have he : ordZ (bytes a) (bytes b) = if negB (bytes a) = true then (if negB (bytes b) = true then ordL (digL (bytes b)) (digL (bytes a)) else -1) else (if negB (bytes b) = true then 1 else ordL (digL (bytes a)) (digL (bytes b))) := rfl
  generalize ordZ (bytes a) (bytes b) = r at *
  generalize negB (bytes a) = na at *
  generalize negB (bytes b) = nb at *
  generalize ordL (digL (bytes b)) (digL (bytes a)) = rba at *
  generalize ordL (digL (bytes a)) (digL (bytes b)) = rab at *
  generalize str (digL (bytes a)) = da at *
  generalize str (digL (bytes b)) = db at *
  clear ha' hb'
  cases na <;> cases nb
  · have hr : r = rab := he
    subst hr; clear he OBA
    go_enter Tryz.func83, Tryz.ntmps83
    go_wp2_with (go_at_call 87; refine (CA _).mono ?_; rintro e w1 ⟨rfl, rfl⟩; refine Hid.out ?_)
    refine Lib.hid ?_
    go_wp2_with (go_at_call 87; refine (CA _).mono ?_; rintro e w1 ⟨rfl, rfl⟩; refine Hid.out ?_)
    refine Lib.hid ?_
    go_wp2_with (go_at_call 87; refine (CB _).mono ?_; rintro e w1 ⟨rfl, rfl⟩; refine Hid.out ?_)
    refine Lib.hid ?_
    go_wp2_with (go_at_call 84; refine (DA _).mono ?_; rintro e w1 ⟨rfl, rfl⟩; refine Hid.out ?_)
    refine Lib.hid ?_
    go_wp2_with (go_at_call 84; refine (DB _).mono ?_; rintro e w1 ⟨rfl, rfl⟩; refine Hid.out ?_)
    refine Lib.hid ?_
    go_wp2_with (go_at_call 101; refine (OAB _).mono ?_; rintro e w1 ⟨rfl, rfl⟩; refine Hid.out ?_)
    refine Lib.hid ?_
    go_wp2
    go_ret
    exact ⟨rfl, rfl⟩
  · have hr : r = 1 := he
    subst hr; clear he OBA OAB
    go_enter Tryz.func83, Tryz.ntmps83
    go_wp2_with (go_at_call 87; refine (CA _).mono ?_; rintro e w1 ⟨rfl, rfl⟩; refine Hid.out ?_)
    refine Lib.hid ?_
    go_wp2_with (go_at_call 87; refine (CA _).mono ?_; rintro e w1 ⟨rfl, rfl⟩; refine Hid.out ?_)
    refine Lib.hid ?_
    go_wp2_with (go_at_call 87; refine (CB _).mono ?_; rintro e w1 ⟨rfl, rfl⟩; refine Hid.out ?_)
    refine Lib.hid ?_
    go_wp2
    go_ret
    exact ⟨rfl, rfl⟩
  · have hr : r = -1 := he
    subst hr; clear he OBA OAB
    go_enter Tryz.func83, Tryz.ntmps83
    go_wp2_with (go_at_call 87; refine (CA _).mono ?_; rintro e w1 ⟨rfl, rfl⟩; refine Hid.out ?_)
    refine Lib.hid ?_
    go_wp2_with (go_at_call 87; refine (CB _).mono ?_; rintro e w1 ⟨rfl, rfl⟩; refine Hid.out ?_)
    refine Lib.hid ?_
    go_wp2_with (go_at_call 87; refine (CA _).mono ?_; rintro e w1 ⟨rfl, rfl⟩; refine Hid.out ?_)
    refine Lib.hid ?_
    go_wp2
    go_ret
    exact ⟨rfl, rfl⟩
  · have hr : r = rba := he
    subst hr; clear he OAB
    go_enter Tryz.func83, Tryz.ntmps83
    go_wp2_with (go_at_call 87; refine (CA _).mono ?_; rintro e w1 ⟨rfl, rfl⟩; refine Hid.out ?_)
    refine Lib.hid ?_
    go_wp2_with (go_at_call 87; refine (CB _).mono ?_; rintro e w1 ⟨rfl, rfl⟩; refine Hid.out ?_)
    refine Lib.hid ?_
    go_wp2_with (go_at_call 84; refine (DB _).mono ?_; rintro e w1 ⟨rfl, rfl⟩; refine Hid.out ?_)
    refine Lib.hid ?_
    go_wp2_with (go_at_call 84; refine (DA _).mono ?_; rintro e w1 ⟨rfl, rfl⟩; refine Hid.out ?_)
    refine Lib.hid ?_
    go_wp2_with (go_at_call 101; refine (OBA _).mono ?_; rintro e w1 ⟨rfl, rfl⟩; refine Hid.out ?_)
    refine Lib.hid ?_
    go_wp2
    go_ret
    exact ⟨rfl, rfl⟩
def cmpR (a b : List UInt8) : Value := .tuple #[.int .i64 (if errBoth a b = 0 then ordZ a b else 0), .int .i64 (errBoth a b : Nat)]
theorem errBoth_cases (a b : List UInt8) : errBoth a b = 0 ∨ errBoth a b = 3 ∨ errBoth a b = 10 := by
  unfold errBoth; split
  · exact errOf_cases b
  · exact errOf_cases a
set_option maxHeartbeats 2000000 in
theorem compareZ_any (a b : ByteArray) (w : World) (ha : a.size ≤ 9223372036854775807) (hb : b.size ≤ 9223372036854775807) :
    Calls Tryz.prog 48 #[.string a, .string b] w fun e w' => e = .returned (cmpR (bytes a) (bytes b)) ∧ w' = w := by
  have C1 := fun W => checkBoth_any a b W ha hb
  have C2 := fun W => order_any a b W ha hb
  have hc := errBoth_cases (bytes a) (bytes b)
  unfold cmpR
  generalize errBoth (bytes a) (bytes b) = c at *
  generalize ordZ (bytes a) (bytes b) = r at *
  rcases hc with rfl | rfl | rfl
  · go_enter Tryz.func48, Tryz.ntmps48
    go_wp2_with (go_at_call 51; refine (C1 _).mono ?_; rintro e w1 ⟨rfl, rfl⟩; refine Hid.out ?_)
    refine Lib.hid ?_
    go_wp2_with (go_at_call 83; refine (C2 _).mono ?_; rintro e w1 ⟨rfl, rfl⟩; refine Hid.out ?_)
    refine Lib.hid ?_
    go_wp2
    refine bodyPost_ret (by simp [results, Tryz.results48, go_sem]; rfl) rfl ?_
    exact ⟨rfl, rfl⟩
  all_goals
    go_enter Tryz.func48, Tryz.ntmps48
    go_wp2_with (go_at_call 51; refine (C1 _).mono ?_; rintro e w1 ⟨rfl, rfl⟩; refine Hid.out ?_)
    refine Lib.hid ?_
    go_wp2
    refine bodyPost_ret (by simp [results, Tryz.results48, go_sem]; rfl) rfl ?_
    exact ⟨rfl, rfl⟩
def Blk (w : World) (b : Nat) (l : List Nat) : Prop := ∃ R : List Value, w.heap[b]? = some (.cells (cellsOf l ++ R).toArray 97 (0, 0))
theorem Blk.lt {w : World} {b : Nat} {l : List Nat} (h : Blk w b l) : b < w.heap.size := by obtain ⟨R, h⟩ := h; exact lt_of_block h
theorem Blk.cell {w : World} {b : Nat} {l : List Nat} (h : Blk w b l) (k : Nat) (hk : k < l.length) : w.cell? ⟨b, k, none⟩ = some (.int .u32 (l.getD k 0 : Nat)) := by
  obtain ⟨R, h⟩ := h
  have e : w.cell? ⟨b, k, none⟩ = (cellsOf l ++ R).toArray[k]? := by simp [World.cell?, h]
  rw [e, ← cellsOf_get l k hk]
  simp only [List.getElem?_toArray]
  rw [List.getElem?_append_left (by rw [cellsOf_length]; exact hk)]
theorem Blk.frozen {w : World} {b : Nat} {l : List Nat} (h : Blk w b l) (k : Nat) : w.frozen? ⟨b, k, none⟩ = false := by
  obtain ⟨R, h⟩ := h; simp [World.frozen?, h]
theorem Blk.set {w : World} {b : Nat} {l : List Nat} (h : Blk w b l) (k n : Nat) : Blk (w.setCell ⟨b, k, none⟩ (.int .u32 (n : Int))) b (l.set k n) := by
  obtain ⟨R, h⟩ := h
  have hlt := lt_of_block h
  have h' : w.heap[b] = .cells (cellsOf l ++ R).toArray 97 (0, 0) := by simpa [Array.getElem?_eq_getElem hlt] using h
  have e : (w.setCell ⟨b, k, none⟩ (.int .u32 (n : Int))).heap[b]? = some (.cells ((cellsOf l ++ R).set k (.int .u32 (n : Int))).toArray 97 (0, 0)) := by
    show (w.heap.modify b _)[b]? = _
    rw [Array.getElem?_eq_getElem (by simpa using hlt), Array.getElem_modify_self, h']
    simp
  by_cases hk : k < l.length
  · refine ⟨R, ?_⟩
    rw [e, List.set_append_left _ _ (by rw [cellsOf_length]; exact hk)]
    simp [cellsOf, List.map_set]
  · refine ⟨R.set (k - (cellsOf l).length) (.int .u32 (n : Int)), ?_⟩
    rw [e, List.set_append_right _ _ (by rw [cellsOf_length]; omega), List.set_eq_of_length_le (l := l) (by omega)]
theorem Blk.keep {w w' : World} {b : Nat} {l : List Nat} {row : Option Nat} (h : Blk w b l) (hg : w.grownBy w' row) (hne : some b ≠ row) : Blk w' b l := by
  obtain ⟨R, h⟩ := h
  exact ⟨R, by rw [hg.block b (lt_of_block h) hne]; exact h⟩
theorem Blk.row {w : World} {b c : Nat} {l : List Nat} (h : Blk w b l) (hc : l.length ≤ c) (hm : c ≤ 9223372036854775807) : RowAt w (some ⟨b, 0, none⟩) c l :=
  ⟨hc, hm, .inr ⟨b, 0, rfl, h.lt, fun k hk => by rw [Nat.zero_add]; exact h.cell k hk⟩⟩
theorem blk_of_owns {w : World} {base g n c : Nat} {l : List Nat} (h : w.ownsRow base 97 1 (.slice (some ⟨g, 0, none⟩) n c) n (cellsOf l)) : Blk w g l ∧ l.length = n ∧ n ≤ c ∧ c ≤ 9223372036854775807 ∧ base ≤ g := by
  obtain ⟨h1, h2⟩ := h
  rw [cellsOf_length] at h1
  rcases h2 with ⟨h2, -⟩ | ⟨g', cap, cur, he, hb, hg, hle, hm, hs, ht⟩
  · simp at h2
  · injection he with e1 e2 e3
    injection e1 with e1; injection e1 with e1 _ _
    subst e1; subst e3
    refine ⟨⟨cur.toList.drop (n * 1), ?_⟩, by omega, hle, by unfold maxLen at hm; omega, hb⟩
    rw [hg, ← ht, List.take_append_drop]
theorem blk_of_made {w : World} {base g n : Nat} (h : w.ownsRow base 97 1 (.slice (some ⟨g, 0, none⟩) n n) n (madeCells #[Value.int .u32 0] n).toList) : Blk w g (List.replicate n 0) := by
  have e : (madeCells #[Value.int .u32 0] n).toList = cellsOf (List.replicate n 0) :=
    List.ext_getElem (by simp [cellsOf, madeCells]) fun i h3 h4 => by simp [cellsOf, madeCells, Nat.mod_one]
  rw [e] at h
  exact (blk_of_owns h).1
theorem grown_refl (w : World) (row : Option Nat) : w.grownBy w row := ⟨rfl, rfl, rfl, Nat.le_refl _, fun _ _ _ => rfl⟩
theorem grown_trans {a b c : World} {row : Option Nat} (h : a.grownBy b row) (k : b.grownBy c row) : a.grownBy c row :=
  ⟨k.os.trans h.os, k.tape.trans h.tape, k.output.trans h.output, Nat.le_trans h.size k.size, fun i hi hne => (k.block i (Nat.lt_of_lt_of_le hi h.size) hne).trans (h.block i hi hne)⟩
theorem grown_set {a w : World} {b : Nat} (h : a.grownBy w (some b)) (k : Nat) (v : Value) : a.grownBy (w.setCell ⟨b, k, none⟩ v) (some b) :=
  grown_trans h ⟨rfl, rfl, rfl, by simp [World.setCell], fun i _ hne => Below.heap_setCell _ _ _ _ (fun e => hne (by rw [e]))⟩
theorem grown_drew {a w : World} {row : Option Nat} (h : a.grownBy w row) (n : Nat) : a.grownBy (w.drewN n) row :=
  grown_trans h ⟨rfl, rfl, rfl, Nat.le_refl _, fun _ _ _ => rfl⟩
theorem grown_below {a w w' : World} {row : Option Nat} (h : a.grownBy w row) (k : Below w.heap.size w w') : a.grownBy w' row :=
  grown_trans h ⟨k.os, k.tape, k.output, k.size, fun i hi _ => k.block i hi⟩
theorem grown_none {a w : World} {row : Option Nat} (h : a.grownBy w none) : a.grownBy w row :=
  ⟨h.os, h.tape, h.output, h.size, fun i hi _ => h.block i hi (by simp)⟩
theorem below_of_grown {a w : World} (h : a.grownBy w none) : Below a.heap.size a w :=
  ⟨h.os, h.tape, h.output, h.size, fun i hi => h.block i hi (by simp)⟩
theorem grown_of_below {a w : World} (h : Below a.heap.size a w) : a.grownBy w none :=
  ⟨h.os, h.tape, h.output, h.size, fun i hi _ => h.block i hi⟩
theorem below_grown {a w w' : World} {b : Nat} (h : Below a.heap.size a w) (k : w.grownBy w' (some b)) (hb : a.heap.size ≤ b) : Below a.heap.size a w' :=
  h.trans ⟨k.os, k.tape, k.output, k.size, fun i hi => k.block i (Nat.lt_of_lt_of_le hi h.size) (fun e => by injection e with e; omega)⟩
theorem gcell {a w : World} {row : Option Nat} (h : a.grownBy w row) {p : Addr} {v : Value} (hc : a.cell? p = some v) (hne : some p.block ≠ row) : w.cell? p = some v := h.cell hc hne
theorem gfree {a w : World} {row : Option Nat} (h : a.grownBy w row) {p : Addr} (hlt : p.block < a.heap.size) (hf : a.frozen? p = false) (hne : some p.block ≠ row) : w.frozen? p = false := by
  rw [World.frozen?_of_block (w := a) (h.block p.block hlt hne)]; exact hf
theorem RowAt.get {w : World} {b off c : Nat} {l : List Nat} (h : RowAt w (some ⟨b, off, none⟩) c l) (k : Nat) (hk : k < l.length) : w.cell? ⟨b, off + k, none⟩ = some (.int .u32 (l.getD k 0 : Nat)) := by
  rcases h.2.2 with ⟨h0, -⟩ | ⟨b', off', he, _, hc⟩
  · rw [h0] at hk; simp at hk
  · injection he with he; injection he with e1 e2 _
    subst e1; subst e2
    exact hc k hk
theorem RowAt.block {w : World} {b off c : Nat} {l : List Nat} (h : RowAt w (some ⟨b, off, none⟩) c l) (hne : l ≠ []) : b < w.heap.size := by
  rcases h.2.2 with ⟨h0, -⟩ | ⟨b', off', he, hlt, hc⟩
  · exact absurd h0 hne
  · injection he with he; injection he with e1 e2 _
    subst e1; exact hlt
theorem RowAt.addr {w : World} {ao : Option Addr} {c : Nat} {l : List Nat} (h : RowAt w ao c l) (hne : l ≠ []) : ∃ b off, ao = some ⟨b, off, none⟩ := by
  rcases h.2.2 with ⟨h0, -⟩ | ⟨b, off, he, _, _⟩
  · exact absurd h0 hne
  · exact ⟨b, off, he⟩
structure Three (w W : World) (v1 v2 v3 : Value) : Prop where
  size : W.heap.size = w.heap.size + 3
  c1 : W.cell? ⟨w.heap.size, 0, none⟩ = some v1
  c2 : W.cell? ⟨w.heap.size + 1, 0, none⟩ = some v2
  c3 : W.cell? ⟨w.heap.size + 1 + 1, 0, none⟩ = some v3
  f1 : W.frozen? ⟨w.heap.size, 0, none⟩ = false
  f2 : W.frozen? ⟨w.heap.size + 1, 0, none⟩ = false
  f3 : W.frozen? ⟨w.heap.size + 1 + 1, 0, none⟩ = false
  below : Below w.heap.size w W
theorem three_new (w : World) (v1 v2 v3 : Value) (t1 t2 t3 : TypeId) : Three w (((w.alloc (Obj.cells #[v1] t1)).alloc (Obj.cells #[v2] t2)).alloc (Obj.cells #[v3] t3)) v1 v2 v3 :=
  ⟨by simp, by go_cell, by go_cell, by go_cell, by go_cell, by go_cell, by go_cell, by go_grown⟩
theorem RowAt.box {w : World} {ao : Option Addr} {c : Nat} {l : List Nat} (h : RowAt w ao c l) {p : Addr} {so : Option Addr} {n m : Nat} (hp : w.cell? p = some (.slice so n m)) (u : Value) : RowAt (w.setCell p u) ao c l := by
  obtain ⟨h1, h2, h3⟩ := h
  refine ⟨h1, h2, ?_⟩
  rcases h3 with h3 | ⟨b, off, he, hlt, hc⟩
  · exact .inl h3
  · refine .inr ⟨b, off, he, by simpa [World.setCell] using hlt, fun k hk => ?_⟩
    have h4 := hc k hk
    rw [World.cell?_setCell_other (h := fun e => by rw [e, h4] at hp; simp at hp)]
    exact h4
theorem trimmed_at (l : List Nat) (n : Nat) (ao : Option Addr) (c : Nat) (w : World) (hn : l.length = n) (hr : RowAt w ao c l) (hs : Small l) :
    Calls Tryz.prog 89 #[.slice ao n c] w (RetN (val l) w) := by
  subst hn; exact trimmed_any l ao c w hr hs
structure Boxes (w W : World) (v1 v2 v3 : Value) : Prop where
  lt : w.heap.size + 1 + 1 < W.heap.size
  c1 : W.cell? ⟨w.heap.size, 0, none⟩ = some v1
  c2 : W.cell? ⟨w.heap.size + 1, 0, none⟩ = some v2
  c3 : W.cell? ⟨w.heap.size + 1 + 1, 0, none⟩ = some v3
  f1 : W.frozen? ⟨w.heap.size, 0, none⟩ = false
  f2 : W.frozen? ⟨w.heap.size + 1, 0, none⟩ = false
  f3 : W.frozen? ⟨w.heap.size + 1 + 1, 0, none⟩ = false
  below : Below w.heap.size w W
theorem Three.boxes {w W : World} {v1 v2 v3 : Value} (h : Three w W v1 v2 v3) : Boxes w W v1 v2 v3 :=
  ⟨by rw [h.size]; omega, h.c1, h.c2, h.c3, h.f1, h.f2, h.f3, h.below⟩
theorem Boxes.mono {w W W' : World} {v1 v2 v3 : Value} (h : Boxes w W v1 v2 v3) (k : Below W.heap.size W W') : Boxes w W' v1 v2 v3 := by
  have hl := h.lt
  exact ⟨Nat.lt_of_lt_of_le h.lt k.size, (k.cell (p := ⟨w.heap.size, 0, none⟩) (by simp; omega)).trans h.c1, (k.cell (p := ⟨w.heap.size + 1, 0, none⟩) (by simp; omega)).trans h.c2, (k.cell (p := ⟨w.heap.size + 1 + 1, 0, none⟩) (by simp; omega)).trans h.c3,
    (k.frozen (p := ⟨w.heap.size, 0, none⟩) (by simp; omega)).trans h.f1, (k.frozen (p := ⟨w.heap.size + 1, 0, none⟩) (by simp; omega)).trans h.f2, (k.frozen (p := ⟨w.heap.size + 1 + 1, 0, none⟩) (by simp; omega)).trans h.f3, Below.chain h.below k⟩
theorem Boxes.grown {w W W' : World} {v1 v2 v3 : Value} {b : Nat} (h : Boxes w W v1 v2 v3) (k : W.grownBy W' (some b)) (hb : w.heap.size + 1 + 1 < b) : Boxes w W' v1 v2 v3 := by
  have hl := h.lt
  exact ⟨Nat.lt_of_lt_of_le h.lt k.size, gcell k h.c1 (by simp; omega), gcell k h.c2 (by simp; omega), gcell k h.c3 (by simp; omega),
    gfree k (by simp; omega) h.f1 (by simp; omega), gfree k (by simp; omega) h.f2 (by simp; omega), gfree k (by simp; omega) h.f3 (by simp; omega), below_grown h.below k (by omega)⟩
theorem Boxes.swap {w W : World} {v1 v2 v3 : Value} (h : Boxes w W v1 v2 v3) (u1 u2 : Value) : Boxes w ((W.setCell ⟨w.heap.size, 0, none⟩ u1).setCell ⟨w.heap.size + 1, 0, none⟩ u2) u1 u2 v3 := by
  have hl := h.lt
  refine ⟨by simpa [World.setCell] using hl, ?_, ?_, ?_, ?_, ?_, ?_, ?_⟩
  · rw [World.cell?_setCell_other (h := by simp)]; exact cellSet h.c1 _
  · exact cellSet (u := v2) (by rw [World.cell?_setCell_other (h := by simp)]; exact h.c2) _
  · rw [World.cell?_setCell_other (h := by simp), World.cell?_setCell_other (h := by simp)]; exact h.c3
  · rw [World.frozen?_setCell, World.frozen?_setCell]; exact h.f1
  · rw [World.frozen?_setCell, World.frozen?_setCell]; exact h.f2
  · rw [World.frozen?_setCell, World.frozen?_setCell]; exact h.f3
  · exact (h.below.setCell (p := ⟨w.heap.size, 0, none⟩) (Nat.le_refl _) _).setCell (p := ⟨w.heap.size + 1, 0, none⟩) (by simp) _
end Go.Proofs.YtmnbjkbkjmgmkaaGreatDoor

set_option linter.unusedSimpArgs false
set_option linter.unusedVariables false
namespace Go.Proofs.YtmnbjkbkjmgmkaaGreatDoor
open Go Go.Proofs Go.RowKit Go.Shelf
attribute [local go_sem] Oper.semAt_some
set_option maxHeartbeats 1000000 in
theorem limbsOf_any (s : ByteArray) (w : World) :
    Calls Tryz.prog 106 #[.string s] w fun e w' => e = .returned (.func (.func 125) #[] #[.pointer (some ⟨w.heap.size, 0, none⟩)]) ∧ w' = w.alloc (.cells #[.string s] 9) := by
  go_enter Tryz.func106, Tryz.ntmps106
  go_wp2
  go_ret
  exact ⟨rfl, rfl⟩
theorem iter_stops (n : Nat) (hn : 1 ≤ n) (Bn : Nat) (s : ByteArray) (hs : s.size ≤ 9223372036854775807) (hd : AllDig (bytes s)) (w : World) (hBn : Bn < w.heap.size) (hc : w.cell? ⟨Bn, 0, none⟩ = some (.string s)) :
    SeqStopsK Fence.wide n Tryz.prog 125 #[.pointer (some ⟨Bn, 0, none⟩)] (fun x : Nat => #[Value.int .u32 ((x : Nat) : Int)]) (KBlk Bn) (fun ys => ys = chunks (bytes s)) (fun pre => pre <+: chunks (bytes s)) (chunks (bytes s)).length w := fun l J Jx W hW _ _ hY h0 =>
  iter_in n hn l Bn s hs hd J Jx hY W ((hW.cell (p := ⟨Bn, 0, none⟩) hBn).trans hc) h0
theorem RowAt.put {W : World} {D : Nat} {x : Option (List Deferred)} (hK : W.heap[D]? = some (.deferred x)) (o : Obj) {ao : Option Addr} {c : Nat} {l : List Nat} (h : RowAt W ao c l) : RowAt (W.putObj D o) ao c l := by
  obtain ⟨h1, h2, h3⟩ := h
  refine ⟨h1, h2, ?_⟩
  rcases h3 with h3 | ⟨b, off, he, hlt, hc⟩
  · exact .inl h3
  · refine .inr ⟨b, off, he, by simpa using hlt, fun k hk => ?_⟩
    have h4 := hc k hk
    have hne : b ≠ D := fun e => by subst e; simp [World.cell?, hK] at h4
    rw [World.cell?_of_block (w := W) (a := ⟨b, off + k, none⟩) (World.putObj_heap_other hne)]
    exact h4
set_option maxRecDepth 100000 in
set_option maxHeartbeats 2000000 in
theorem parse_good (s : ByteArray) (w : World) (hs : s.size ≤ 1000000000000) (hd : digB (bytes s) = true) :
    Calls Tryz.prog 86 #[.string s] w fun e w' => ∃ v, e = .returned (.tuple #[v, .bool true]) ∧ NumAt w' v (dec (bytes s)) ∧ Below w.heap.size w w' := by
  obtain ⟨i0, hi, hz0, hz1, hz2⟩ := info_parts infoU32
  have hall := allDigits_any s
  rw [hd] at hall
  have HALL := Lib.hid hall
  have hdg : AllDig (bytes s) := fun c hc => by
    unfold digB at hd
    rw [Bool.and_eq_true] at hd
    exact List.all_eq_true.1 hd.2 c hc
  have HD := Lib.hid hdg
  clear hall hd hdg
  refine (callsIn_wide (n := 3)).1 ?_
  refine callsIn_of_wp_marks Tryz.func86 rfl trivial ?_ rfl
  simp only [Tryz.ntmps86, List.size_toArray, List.length_cons, List.length_nil, Nat.reduceAdd, Nat.reduceSub, Array.replicate_succ, Array.replicate_zero, List.push_toArray, List.append_toArray, List.nil_append, List.cons_append]
  gi_wp2_with fail
  refine ⟨trivial, (callsIn_wide.2 (HALL.out _ (by omega))).mono ?_⟩
  rintro e w' ⟨rfl, rfl⟩
  gi_wp2_with (gi_at_make; refine wpListIn_make_own _ rfl _ _ 69 rfl (w.heap.size + 1) 97 i0 (.int .u32 0) 1 Tryz.underlying69 hi hz0 hz1 .i64 .i64 _ (s.size / 9 + 1) rfl rfl ?a1 ?a2 ?a3 ?a4 ?_)
  case a1 => omega
  case a2 => rw [hz2]; omega
  case a3 => unfold maxLen; omega
  case a4 => simp
  intro W1 hown hg
  have hbx0 : Boxed W1 w.heap.size 71 (.slice none 0 0) := (Boxed.new w 71 (.slice none 0 0)).kept hg (by simp)
  have hB1 : Below w.heap.size w W1 := Below.chain ((Below.refl w.heap.size w).alloc (Nat.le_refl _) _) (below_of_grown hg)
  have hsz1 : w.heap.size + 1 < W1.heap.size := by
    rcases hown.2 with ⟨h, _⟩ | ⟨g', cap, cur, he, hb, hgb, _⟩
    · simp at h
    · injection he with he _ _; injection he with he; injection he with he _ _
      have := (Array.getElem?_eq_some_iff.1 hgb).1
      omega
  have HOWN := Lib.hid hown; have HBX0 := Lib.hid hbx0; have HB1 := Lib.hid hB1
  clear hown hg hbx0 hB1
  gi_wp2_with fail
  refine ⟨trivial, (callsIn_wide.2 (limbsOf_any s _)).mono ?_⟩
  rintro e w' ⟨rfl, rfl⟩
  gi_wp2_with fail
  have bO := Boxed.new W1 69 (.slice (some ⟨w.heap.size + 1, 0, none⟩) 0 (s.size / 9 + 1))
  have bN := Boxed.new (W1.alloc (.cells #[.slice (some ⟨w.heap.size + 1, 0, none⟩) 0 (s.size / 9 + 1)] 69)) 9 (.string s)
  rw [World.size_alloc] at bN
  have hch := chunks_facts _ (bytes s) rfl HD.out
  rw [bytes_length] at hch
  obtain ⟨hch1, hch2, hch3⟩ := hch
  have HCH1 := Lib.hid hch1; have HCH2 := Lib.hid hch2
  clear hch1 hch2
  have hB2 : Below w.heap.size w ((W1.alloc (.cells #[.slice (some ⟨w.heap.size + 1, 0, none⟩) 0 (s.size / 9 + 1)] 69)).alloc (.cells #[.string s] 9)) :=
    (HB1.out.alloc HB1.out.size _).alloc (by simp; have := HB1.out.size; omega) _
  refine wpIn_rangeFunc_ownG rfl (by omega) (gf := 125) (lb := #[.pointer (some ⟨W1.heap.size + 1, 0, none⟩)]) rfl trivial (enters_of Tryz.func125 (by kernel_rfl) rfl)
    (iter_stops 2 (by omega) (W1.heap.size + 1) s (by omega) HD.out _ (by simp) bN.cell) (fun {A B C} h k => k.trans h) ?hKb (Below.refl _ _) (fun _ => rfl)
    (fun pre W => (∃ v, Boxed W W1.heap.size 69 v ∧ W.ownsRow (w.heap.size + 1) 97 1 v pre.length (cellsOf pre) ∧ True) ∧ Boxed W w.heap.size 71 (.slice none 0 0) ∧ Boxed W (W1.heap.size + 1) 9 (.string s) ∧ Below w.heap.size w W)
    (fun _ _ _ => False)
    (OwnFrom.and (Own.from (holdsRow_own (w.heap.size + 1) W1.heap.size 69 97 1 (fun pre : List Nat => pre.length) (fun pre => cellsOf pre) (fun _ _ => True)) _) (OwnFrom.and (Own.from (boxed_own w.heap.size 71 (fun _ => .slice none 0 0)) _) (OwnFrom.and (Own.from (boxed_own (W1.heap.size + 1) 9 (fun _ => .string s)) _) (ownFrom_below (Nat.le_refl _) (by simp; have := HB1.out.size; omega)))))
    (fun _ _ _ _ _ hs _ _ => hs)
    ⟨⟨_, bO.alloc _, (HOWN.out.alloc _).alloc _, trivial⟩, (HBX0.out.alloc _).alloc _, bN, hB2⟩
    (fun x => { tmps := #[.string s, undef, .pointer (some ⟨w.heap.size, 0, none⟩), .bool false, .pointer (some ⟨W1.heap.size, 0, none⟩), .int .u32 ((x : Nat) : Int), .string s, .bool true, .bool false, undef, .string s, .int .i64 (s.size : Int), .int .i64 ((s.size : Int) / 9), .int .i64 ((s.size : Int) / 9 + 1),
      .slice (some ⟨w.heap.size + 1, 0, none⟩) 0 (s.size / 9 + 1), .string s, .func (.func 125) #[] #[.pointer (some ⟨W1.heap.size + 1, 0, none⟩)], .int .u32 ((x : Nat) : Int), undef, undef, undef, undef, undef, undef], defers := [] }) ?assign ?body ?done ?stop
  case hKb =>
    intro W l o o' hl _ _ _
    exact World.putObj_heap_other (by simp at hl; omega)
  case assign =>
    intro l x W K hK
    gi_wp2
    exact hK
  case body =>
    rintro l pre x W ⟨⟨v, hv, hrow, -⟩, hbx, hst, hB⟩ hlt
    have hc := hv.cell
    have hf := hv.frozen
    have hWs := hv.lt
    have h1s := HB1.out.size
    gi_wp2_with (gi_at_builtin; refine wpListIn_append_own _ rfl _ _ 69 rfl (w.heap.size + 1) 97 i0 (.int .u32 0) 1 4 Tryz.underlying69 hi hz0 hz1 hz2 rfl (by decide) _ _ _ rfl (hrow.alloc _) ⟨W.heap.size, 0, none⟩ 1 1 [.int .u32 (x : Int)] rfl rfl (cell_one_new _ _ _) (by simp [Value.oneCell']) (by unfold maxLen; omega) (by omega) (by simp; omega) ?_; intro v' w1 hown' hgrow _; obtain ⟨g', cap', rfl⟩ := ownsRow_succ hown'; obtain ⟨hv1, hv2, hr2, hk2, hb2⟩ := hv.appended (by decide) hrow (by omega) (by omega) hown' hgrow; have hc1 := hv1.cell; have hf1 := hv1.frozen)
    have hbx1 := ((hbx.alloc _).kept hgrow (hbx.not_row (by decide) hrow)).other (B' := W1.heap.size) (by omega) (Value.slice (some { block := g', off := 0 }) (pre.length + 1) cap')
    have hst1 := ((hst.alloc _).kept hgrow (hst.not_row (by decide) hrow)).other (B' := W1.heap.size) (by omega) (Value.slice (some { block := g', off := 0 }) (pre.length + 1) cap')
    refine ⟨hk2.from _, hst1.trans hst.symm, ⟨_, hv2, ?_, trivial⟩, hbx1, hst1, hB.trans (hb2.mono (by omega))⟩
    rw [List.length_append, cellsOf_append]
    exact hr2
  case done =>
    rintro D ys W hD rfl ⟨⟨v, hv, hrow, -⟩, hbx, hst, hB⟩ hK
    have hc := hv.cell
    obtain ⟨ao, c, rfl, hra⟩ := row_of_owns hrow
    have hcb := hbx.cell
    have hfb := hbx.frozen
    have HRA := Lib.hid hra; have HB := Lib.hid hB
    clear hra hB hrow
    gi_wp2_with fail
    refine ⟨trivial, (callsIn_wide.2 (trimmed_any (chunks (bytes s)) ao c W HRA.out HCH1.out)).mono ?_⟩
    rintro e w2 ⟨v2, rfl, hv2, hb2⟩
    obtain ⟨a2, c2, rfl, hr2⟩ := hv2
    have hbx2 : Boxed w2 w.heap.size 71 (.slice none 0 0) := hbx.kept (grown_of_below hb2) (by simp)
    have hK2 : w2.heap[D]? = some (.deferred (some [])) := (hb2.block D (Array.getElem?_eq_some_iff.1 hK).1).trans hK
    have hcb2 := hbx2.cell
    have hfb2 := hbx2.frozen
    have HB2 := Lib.hid (Below.chain HB.out hb2); have HR2 := Lib.hid hr2
    clear hb2 hr2 hcb hfb hc
    gi_wp2
    have hDne : D ≠ w.heap.size := by simp at hD; have := HB1.out.size; omega
    have hK3 : (w2.setCell ⟨w.heap.size, 0, none⟩ (.slice a2 (limbs (val (chunks (bytes s)))).length c2)).heap[D]? = some (.deferred (some [])) := (Below.heap_setCell _ _ _ _ hDne).trans hK2
    refine ⟨by simp, .inl ⟨_, _, rfl, run_takeDeferred hK3, ?_⟩⟩
    have hc3 : ((w2.setCell ⟨w.heap.size, 0, none⟩ (.slice a2 (limbs (val (chunks (bytes s)))).length c2)).putObj D (.deferred none)).cell? ⟨w.heap.size, 0, none⟩ = some (.slice a2 (limbs (val (chunks (bytes s)))).length c2) := by
      rw [World.cell?_of_block (w := w2.setCell ⟨w.heap.size, 0, none⟩ (.slice a2 (limbs (val (chunks (bytes s)))).length c2)) (a := ⟨w.heap.size, 0, none⟩) (World.putObj_heap_other hDne.symm)]
      exact cellSet hcb2 _
    refine ⟨.tuple #[.agg #[.slice a2 (limbs (val (chunks (bytes s)))).length c2], .bool true], by simp [results, Tryz.results86, go_sem, hc3], _, rfl, ⟨a2, c2, by rw [HCH2.out], ?_⟩, ?_⟩
    · rw [← HCH2.out]; exact RowAt.put hK3 _ (HR2.out.box hcb2 _)
    · exact (HB2.out.setCell (p := ⟨w.heap.size, 0, none⟩) (Nat.le_refl _) _).trans (belowK_b (w := w) (Nat.le_refl _) _ D _ _ (by simp at hD; have := HB1.out.size; omega) hK3 rfl rfl)
  case stop =>
    rintro D c pre W _ _ h _
    exact h.elim
set_option maxHeartbeats 1000000 in
theorem parse_bad (s : ByteArray) (w : World) (hs : s.size ≤ 1000000000000) (hd : digB (bytes s) = false) :
    Calls Tryz.prog 86 #[.string s] w fun e w' => e = .returned (.tuple #[.agg #[.slice none 0 0], .bool false]) ∧ Below w.heap.size w w' := by
  have hall := allDigits_any s
  rw [hd] at hall
  have HALL := Lib.hid hall
  clear hall hd
  go_enter Tryz.func86, Tryz.ntmps86
  go_wp2_with fail
  refine (HALL.out _ (by omega)).mono ?_
  rintro e w' ⟨rfl, rfl⟩
  go_wp2
  go_returns
  exact ⟨rfl, by go_grown⟩
end Go.Proofs.YtmnbjkbkjmgmkaaGreatDoor

set_option linter.unusedSimpArgs false
set_option linter.unusedVariables false
namespace Go.Proofs.YtmnbjkbkjmgmkaaGreatDoor
open Go Go.Proofs Go.RowKit
def pre (u j : Nat) : List UInt8 := (List.range j).map fun i => UInt8.ofNat (48 + u / (100000000 / 10 ^ i) % 10)
theorem pre_length (u j : Nat) : (pre u j).length = j := by simp [pre]
theorem pre_succ (u j : Nat) : pre u (j + 1) = pre u j ++ [UInt8.ofNat (48 + u / (100000000 / 10 ^ j) % 10)] := by
  simp [pre, List.range_succ]
theorem pre_dig (u j : Nat) : AllDig (pre u j) := by
  intro c hc
  simp only [pre, List.mem_map, List.mem_range] at hc
  obtain ⟨i, -, rfl⟩ := hc
  exact isDig_ofNat _ (Nat.mod_lt _ (by decide))
theorem dec_pre (u : Nat) (hu : u < 1000000000) : dec (pre u 9) = u := by
  simp only [pre_succ, dec_snoc]
  have e : dec (pre u 0) = 0 := rfl
  rw [e]
  simp only [toNat_dig _ (Nat.mod_lt _ (by decide : 0 < 10))]
  simp only [Nat.reducePow, Nat.reduceDiv]
  omega
theorem infoU8 : (Tryz.prog.info? 5).map (fun i => (i.zero, i.size, i.bytes)) = some (some (.int .u8 0), 1, 1) := by kernel_rfl
theorem byteCells_append (a b : List UInt8) : Lib.byteCells (a ++ b) = Lib.byteCells a ++ Lib.byteCells b := by simp [Lib.byteCells]
theorem byteCells_length (a : List UInt8) : (Lib.byteCells a).length = a.length := by simp [Lib.byteCells]
theorem unit_pos : ∀ j, j < 9 → 0 < 100000000 / 10 ^ j := by decide
theorem unit_next : ∀ j, j < 9 → 100000000 / 10 ^ j / 10 = 100000000 / 10 ^ (j + 1) := by decide
theorem unit_le (j : Nat) : 100000000 / 10 ^ j ≤ 100000000 := Nat.div_le_self _ _
theorem digit_cell (u k j : Nat) (hu : u < 1000000000) (hk : 0 < k) (he : k = 100000000 / 10 ^ j) :
    [Value.int .u8 (48 + (u : Int) / (k : Int) % 4294967296 % 10)] = Lib.byteCells [UInt8.ofNat (48 + u / (100000000 / 10 ^ j) % 10)] := by
  subst he
  have h1 : u / (100000000 / 10 ^ j) ≤ u := Nat.div_le_self _ _
  simp only [Lib.byteCells, List.map_cons, List.map_nil]
  rw [toNat_dig _ (Nat.mod_lt _ (by decide))]
  congr 2
  generalize 100000000 / 10 ^ j = k at *
  rw [← Int.natCast_ediv]
  generalize u / k = q at *
  omega
set_option maxHeartbeats 1000000 in
theorem appendLimb_own (B n u : Nat) (hu : u < 1000000000) (sv : Value) (xs : List Value) (w : World) (hown0 : w.ownsRow B 5 1 sv n xs) (hB : B ≤ w.heap.size) (hlim : n + 20 ≤ 140737488355328) :
    Calls Tryz.prog 109 #[sv, .int .u32 u] w fun e w' => ∃ v', e = .returned v' ∧ w'.ownsRow B 5 1 v' (n + 9) (xs ++ Lib.byteCells (pre u 9)) ∧ Below B w w' := by
  obtain ⟨i0, hi, hz0, hz1, hz2⟩ := info_parts infoU8
  have HU := Lib.hid hu; clear hu
  go_enter Tryz.func109, Tryz.ntmps109
  go_wp2_with fail
  go_loopw [0, 5] (fun v m wr => ∃ j k : Nat, j ≤ 9 ∧ k = 100000000 / 10 ^ j ∧ m = .int .u32 k ∧ wr.ownsRow B 5 1 v (n + j) (xs ++ Lib.byteCells (pre u j)) ∧ Below B w wr) (fun _ m _ => (intOf m).toNat)
  case atStart => exact ⟨0, 100000000, by omega, rfl, rfl, by simpa [pre, Lib.byteCells] using hown0, Below.refl _ _⟩
  case round =>
    obtain ⟨j, k, hj, hk, rfl, hown, hbw⟩ := hrel
    by_cases hj9 : j = 9
    · have hk0 : k = 0 := by rw [hk, hj9]
      have hkn : decide (0 < k) = false := by simp; omega
      clear hk
      go_wp2
      subst hj9
      refine bodyPost_ret (v := u0) (by simp [results, Tryz.results109, go_sem]) rfl ⟨_, rfl, hown, hbw⟩
    · have hk1 : 0 < k := by have := unit_pos j (by omega); omega
      have hkle : k ≤ 100000000 := by have := unit_le j; omega
      have HK := Lib.hid hk; clear hk
      go_wp2_with (at_builtin; refine wpList_append_own _ rfl _ _ 108 rfl B 5 i0 (.int .u8 0) 1 1 Tryz.underlying108 hi hz0 hz1 hz2 rfl (by decide) _ _ _ rfl (hown.alloc _) ⟨wr.heap.size, 0, none⟩ 1 1 [.int .u8 (48 + (u : Int) / (k : Int) % 4294967296 % 10)] rfl rfl ?c1 ?c2 ?c3 ?c4 ?c5 ?_)
      case c1 => intro j u hj; match j, hj with | 0, hj => (simp at hj; subst hj; simp [Addr.add])
      case c2 => intro u hu; simp at hu; subst hu; rfl
      case c3 => unfold maxLen; omega
      case c4 => omega
      case c5 => have := hbw.size; simp; omega
      intro v' w1 hown' hgrow _
      go_wp2
      go_roundw
      case rel =>
        refine ⟨j + 1, k / 10, by omega, ?_, ?_, ?_, ?_⟩
        · rw [HK.out]; exact unit_next j (by omega)
        · exact congrArg (Value.int .u32) (by omega)
        · rw [pre_succ, byteCells_append, ← Nat.add_assoc, ← digit_cell u k j HU.out hk1 HK.out]
          exact hown'
        · exact hbw.trans (((Below.refl _ _).alloc (by have := hbw.size; omega) _).grown hgrow (by have := hbw.size; simp; omega) (fun k hk => ((hown.lt k hk)).1))
      case measure => simp only [intOf]; omega
set_option maxHeartbeats 1000000 in
theorem appendUint_own (B n u : Nat) (hu : u < 1000000000) (sv : Value) (xs : List Value) (w : World) (hown0 : w.ownsRow B 5 1 sv n xs) (hB : B ≤ w.heap.size) (hlim : n + 20 ≤ 140737488355328) (htab : Lib.TabIs Tryz.prog w "internal/strconv.uint64pow10" .u64 Lib.pow10Tab) :
    Calls Tryz.prog 108 #[sv, .int .u64 u, .int .i64 10] w fun e w' => ∃ v', e = .returned v' ∧ w'.ownsRow B 5 1 v' (n + (Lib.decDigits u).length) (xs ++ Lib.byteCells (Lib.decDigits u)) ∧ Below B w w' := by
  have C : Calls Tryz.prog 128 #[sv, .int .u64 u, .int .i64 10] w fun e w' => ∃ v', e = .returned v' ∧ w'.ownsRow B 5 1 v' (n + (Lib.decDigits u).length) (xs ++ Lib.byteCells (Lib.decDigits u)) ∧ Below B w w' := by
    by_cases h : u < 100
    · exact (Tryz.internal_strconv_AppendUint_10_small B n u h sv xs w hown0 hB hlim).mono fun e w' ⟨v', h1, h2, h3, _⟩ => ⟨v', h1, h2, h3⟩
    · exact (Tryz.internal_strconv_AppendUint_10_big B n u (by omega) (by omega) sv xs w hown0 hB hlim htab).mono fun e w' ⟨v', h1, h2, h3, _⟩ => ⟨v', h1, h2, h3⟩
  clear hown0 htab
  go_enter Tryz.func108, Tryz.ntmps108
  go_wp2_with (go_at_call 128; refine C.mono ?_; rintro e w1 ⟨v1, rfl, hown1, hnx1⟩; refine Hid.out ?_)
  refine Lib.hid ?_
  go_wp2
  go_ret
  exact ⟨_, rfl, hown1, hnx1⟩
theorem text_step (l : List Nat) (i : Nat) (h : i < l.length) (hs : Small l) (hpos : val (l.drop (i + 1)) ≠ 0) :
    Lib.decDigits (val (l.drop i)) = Lib.decDigits (val (l.drop (i + 1))) ++ pre (l.getD i 0) 9 := by
  have hd : AllDig (Lib.decDigits (val (l.drop (i + 1))) ++ pre (l.getD i 0) 9) := (allDig_decDigits _).append (pre_dig _ _)
  have hne : Lib.decDigits (val (l.drop (i + 1))) ++ pre (l.getD i 0) 9 ≠ [] := by
    intro e; exact decDigits_ne_nil _ (List.append_eq_nil_iff.1 e).1
  have hv : dec (Lib.decDigits (val (l.drop (i + 1))) ++ pre (l.getD i 0) 9) = val (l.drop i) := by
    rw [dec_append, dec_decDigits, pre_length, dec_pre _ (hs.getD i), List.drop_eq_getElem_cons h, val_cons, getD_lt l i h]
    omega
  rw [← hv]
  refine (eq_decDigits hd hne (.inr ?_)).symm
  rw [List.head_append_of_ne_nil (decDigits_ne_nil _)]
  exact decDigits_head _ hpos
theorem drop_pos (l : List Nat) (hn : Norm l) (i : Nat) (h : i < l.length) : val (l.drop i) ≠ 0 := by
  have hne : l.drop i ≠ [] := by simp; omega
  have hn' : Norm (l.drop i) := by
    intro h'
    rw [List.getLast_drop]
    exact hn _
  exact Nat.ne_of_gt (norm_val_pos hn' hne)
theorem text_top (l : List Nat) (h : 0 < l.length) : val (l.drop (l.length - 1)) = l.getD (l.length - 1) 0 := by
  rw [List.drop_eq_getElem_cons (by omega), val_cons, getD_lt l _ (by omega), show l.length - 1 + 1 = l.length by omega, List.drop_length]
  rfl
theorem decDigits_length_le (u k : Nat) (hk : 1 ≤ k) (h : u < 10 ^ k) : (Lib.decDigits u).length ≤ k := by
  have := nDigits_le_of_lt hk h
  rwa [Lib.decDigits_length]
end Go.Proofs.YtmnbjkbkjmgmkaaGreatDoor
