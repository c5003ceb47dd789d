import Derived.Test.YtmnbjkbkjmgmkaaDoorInt1
set_option linter.unusedSimpArgs false
set_option linter.unusedVariables false
namespace Go.Proofs.YtmnbjkbkjmgmkaaDoor
open Go Go.Proofs Go.RowKit

set_option maxHeartbeats 1000000 in
theorem isCanonical_any (s : ByteArray) (w : World) (hs : s.size ≤ 9223372036854775807) :
    Calls Tryd.prog 66 #[.string s] w fun e w' => e = .returned (.bool (canonB (bytes s))) ∧ w' = w := by
  have C := digits_any s
  have hb := bytes_str (digL (bytes s))
  have hcan : canonB (bytes s) = (!(digL (bytes s)).isEmpty && !((digL (bytes s)).head? == some 48 && decide (1 < s.size)) && (digL (bytes s)).all isDig) := rfl
  have hle : (digL (bytes s)).length ≤ s.size := by
    show _ ≤ (bytes s).length
    rcases neg_cases (bytes s) with ⟨-, h⟩ | ⟨-, h⟩
    · rw [congrArg List.length h]; simp
    · rw [h]; exact Nat.le_refl _
  generalize hr : str (digL (bytes s)) = r at *
  generalize hL : digL (bytes s) = L at *
  generalize canonB (bytes s) = q at *
  have hrs : L.length = r.size := by rw [← hb]; rfl
  have hrm : r.size ≤ 9223372036854775807 := by omega
  have HC := Lib.hid hcan; have HB := Lib.hid hb; have HCC := Lib.hid C
  clear hcan hb C hr hL
  by_cases h0 : r.size = 0
  · have hl0 : L = [] := List.length_eq_zero_iff.1 (by omega)
    have hrl : r.toList = [] := by rw [Lib.toList_data]; show bytes r = []; rw [HB.out, hl0]
    have hq : q = false := by rw [HC.out, hl0]; rfl
    subst hq
    clear hl0 hrs
    go_enter Tryd.func66, Tryd.ntmps66
    go_wp2_with (go_at_call 64; refine (HCC.out _).mono ?_; rintro e w1 ⟨rfl, rfl⟩)
    go_ret
    exact ⟨rfl, rfl⟩
  · have hrl : (r.toList == []) = false := by
      rw [Lib.toList_data]
      cases h : r.data.toList with
      | nil => exact absurd (congrArg List.length h) (by show ¬ r.size = 0; exact h0)
      | cons a t => rfl
    have hemp : L.isEmpty = false := by
      cases h : L with
      | nil => rw [h] at hrs; simp at hrs; omega
      | cons a t => rfl
    have hpos : 0 < r.size := by omega
    have hhead : (L.head? == some 48) = decide (byteAt r 0 = 48) := by
      unfold byteAt
      rw [HB.out]
      cases h : L with
      | nil => rw [h] at hrs; simp at hrs; omega
      | cons a t =>
        simp only [List.head?_cons, List.getD_cons_zero]
        rw [Bool.eq_iff_iff]
        simp only [beq_iff_eq, Option.some.injEq, decide_eq_true_eq]
        exact ⟨fun h => by rw [h]; rfl, fun h => by apply UInt8.toNat_inj.1; rw [h]; rfl⟩
    have hq : q = (!(decide (byteAt r 0 = 48) && decide (1 < s.size)) && L.all isDig) := by rw [HC.out, hemp, hhead]; rfl
    have HQ := Lib.hid hq
    have hgk := byteAt_get r 0 hpos
    clear hq hhead hemp hrs
    generalize hb0 : byteAt r 0 = b0 at *
    have HB0 := Lib.hid hb0; clear hb0
    by_cases hz : b0 = 48 ∧ 1 < s.size
    · have hqf : q = false := by rw [HQ.out]; simp [hz.1, hz.2]
      subst hqf
      obtain ⟨rfl, hz2⟩ := hz
      go_enter Tryd.func66, Tryd.ntmps66
      go_wp2_with (go_at_call 64; refine (HCC.out _).mono ?_; rintro e w1 ⟨rfl, rfl⟩)
      go_ret
      exact ⟨rfl, rfl⟩
    · have hq2 : q = (bytes r).all isDig := by
        rw [HQ.out, HB.out]
        have : (decide (b0 = 48) && decide (1 < s.size)) = false := by
          rw [Bool.and_eq_false_iff, decide_eq_false_iff_not, decide_eq_false_iff_not]
          omega
        rw [this]; rfl
      have HQ2 := Lib.hid hq2; clear hq2 HQ HC HB
      have hz' : b0 ≠ 48 ∨ (b0 = 48 ∧ ¬ 1 < s.size) := by omega
      clear hz hle
      rcases hz' with hz | ⟨rfl, hz⟩
      all_goals
        go_enter Tryd.func66, Tryd.ntmps66
        go_wp2_with (go_at_call 64; refine (HCC.out _).mono ?_; rintro e w1 ⟨rfl, rfl⟩)
        clear HCC hgk hrl
        go_loop [21] (fun iv => ∃ k : Nat, k ≤ r.size ∧ iv = .int .i64 k ∧ ((bytes r).take k).all isDig = true) (fun iv => r.size - (intOf iv).toNat)
        case atStart => exact ⟨0, Nat.zero_le _, rfl, rfl⟩
        case round =>
          obtain ⟨k, hk, rfl, hall⟩ := hrel
          by_cases hlt : k < r.size
          · have hgk := byteAt_get r k hlt
            have h1 := all_take_succ (bytes r) k hlt
            rw [isDig_byte r k hlt, hall] at h1
            have H1 := Lib.hid h1; have HALL := Lib.hid hall
            clear h1 hall
            generalize byteAt r k = b at *
            by_cases hd : 48 ≤ b ∧ b ≤ 57
            · obtain ⟨hd1, hd2⟩ := hd
              have e1 : (List.take (k + 1) (bytes r)).all isDig = true := by rw [H1.out]; simp [hd1, hd2]
              have E1 := Lib.hid e1; clear e1
              go_wp2
              go_round
              case rel => exact ⟨k + 1, by omega, by go_num, E1.out⟩
              case measure => simp [intOf]; omega
            · have e1 : q = false := by
                rw [HQ2.out]
                have h2 : ((bytes r).take (k + 1)).all isDig = false := by rw [H1.out]; simp; omega
                cases h3 : (bytes r).all isDig
                · rfl
                · rw [List.all_eq_true] at h3
                  rw [List.all_eq_true.2 (fun c hc => h3 c (List.mem_of_mem_take hc))] at h2
                  cases h2
              have E1 := Lib.hid e1; clear e1
              go_wp2
              all_goals first
                | (exfalso; omega)
                | (go_ret; exact ⟨ret_bool E1.out.symm, rfl⟩)
          · have hkn : k = r.size := by omega
            subst hkn
            rw [List.take_of_length_le (l := bytes r) (i := r.size) (Nat.le_refl r.size)] at hall
            have HALL := Lib.hid hall; clear hall
            go_wp2
            go_ret
            exact ⟨ret_bool (by rw [HQ2.out, HALL.out]), rfl⟩
end Go.Proofs.YtmnbjkbkjmgmkaaDoor
