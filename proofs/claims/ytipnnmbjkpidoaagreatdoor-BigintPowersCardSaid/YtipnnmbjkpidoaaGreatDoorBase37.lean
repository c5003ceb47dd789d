import Derived.Test.YtipnnmbjkpidoaaGreatDoorBase36

set_option linter.unusedVariables false
/-
  Pow of bigint and of the reference for all strings and ints; BigintPowers: the walk.
-/
namespace Go.Proofs.YtipnnmbjkpidoaaGreatDoor
open Go Go.Proofs Go.RowKit

/-- What Pow returns. -/
def powR (l : List UInt8) (n : Int) : Value := if errOf l = 0 then (if 0 ≤ n ∧ n ≤ 1048576 then resV (valZ l ^ n.toNat) else errV 2) else errV (errOf l)
theorem powR_parts (l : List UInt8) (n : Int) : ∃ (u : ByteArray) (e : Nat), powR l n = .tuple #[.string u, .int .i64 e] := by
  unfold powR
  split
  · split
    · exact resV_parts _
    · exact ⟨_, _, rfl⟩
  · exact ⟨_, _, rfl⟩

set_option maxHeartbeats 2000000 in
theorem bigPowR (s : ByteArray) (n : Int) (w : World) (hs : s.size ≤ 9223372036854775807) (htab : Lib.TabIs Tryz.prog w "internal/strconv.uint64pow10" .u64 Lib.pow10Tab) :
    Calls Tryz.prog 51 #[.string s, .int .i64 n] w (Bret (powR (bytes s) n) w) := by
  have C1 := fun W => check_any s W hs
  unfold powR
  by_cases h : errOf (bytes s) = 0
  · rw [if_pos h]
    rw [h] at C1
    have K1 := Lib.hid C1; clear C1
    by_cases hr : 0 ≤ n ∧ n ≤ 1048576
    · rw [if_pos hr]
      obtain ⟨m, rfl⟩ := Int.eq_ofNat_of_zero_le hr.1
      rw [Int.toNat_natCast]
      have hS := str_of_err h
      generalize valZ (bytes s) = x at *
      exact powZ s x m w hS (by omega) htab
    · rw [if_neg hr]
      unfold errV
      clear h
      by_cases h0 : n < 0
      · clear hr
        go_enter Tryz.func51, Tryz.ntmps51
        go_wp2_with (go_at_call 24; refine (K1.out _).mono ?_; rintro e w1 ⟨rfl, h⟩; subst h; refine Hid.out ?_)
        refine Lib.hid ?_
        go_wp2
        refine bodyPost_ret (by simp [results, Tryz.results51, go_sem]; rfl) rfl ?_
        exact ⟨rfl, Below.refl _ _⟩
      · have h1 : 1048576 < n := by omega
        clear hr
        go_enter Tryz.func51, Tryz.ntmps51
        go_wp2_with (go_at_call 24; refine (K1.out _).mono ?_; rintro e w1 ⟨rfl, h⟩; subst h; refine Hid.out ?_)
        refine Lib.hid ?_
        go_wp2
        refine bodyPost_ret (by simp [results, Tryz.results51, go_sem]; rfl) rfl ?_
        exact ⟨rfl, Below.refl _ _⟩
  · rw [if_neg h]
    have hc := errOf_cases (bytes s)
    unfold errV
    generalize errOf (bytes s) = c at *
    have K1 := Lib.hid C1; clear C1
    rcases hc with rfl | rfl | rfl
    · exact absurd rfl h
    all_goals
      clear h
      go_enter Tryz.func51, Tryz.ntmps51
      go_wp2_with (go_at_call 24; refine (K1.out _).mono ?_; rintro e w1 ⟨rfl, h⟩; subst h; refine Hid.out ?_)
      refine Lib.hid ?_
      go_wp2
      refine bodyPost_ret (by simp [results, Tryz.results51, go_sem]; rfl) rfl ?_
      exact ⟨rfl, Below.refl _ _⟩

set_option maxHeartbeats 2000000 in
theorem refPowR (s : ByteArray) (n : Int) (w : World) (hs : s.size ≤ 9223372036854775807) :
    Calls Tryz.prog 52 #[.string s, .int .i64 n] w (Bret (powR (bytes s) n) w) := by
  have C1 := fun W => refCheck_any s W hs
  unfold powR
  by_cases h : errOf (bytes s) = 0
  · rw [if_pos h]
    rw [h] at C1
    have K1 := Lib.hid C1; clear C1
    by_cases hr : 0 ≤ n ∧ n ≤ 1048576
    · rw [if_pos hr]
      obtain ⟨m, rfl⟩ := Int.eq_ofNat_of_zero_le hr.1
      rw [Int.toNat_natCast]
      have hS := str_of_err h
      generalize valZ (bytes s) = x at *
      have hm : m ≤ 1048576 := by omega
      have C2 := fun W => refPower_any s x m W hS hm
      obtain ⟨u, c, hr2⟩ := resV_parts (x ^ m)
      rw [hr2] at C2 ⊢
      have K2 := Lib.hid C2; clear C2 h hS hr2 hr
      go_enter Tryz.func52, Tryz.ntmps52
      go_wp2_with (go_at_call 18; refine (K1.out _).mono ?_; rintro e w1 ⟨rfl, h⟩; subst h; refine Hid.out ?_)
      refine Lib.hid ?_
      go_wp2_with (go_at_call 103; refine (K2.out _).mono ?_; rintro e w2 ⟨rfl, hb2⟩; refine Hid.out ?_)
      refine Lib.hid ?_
      go_wp2
      refine bodyPost_ret (by simp [results, Tryz.results52, go_sem]; rfl) rfl ?_
      exact ⟨rfl, hb2⟩
    · rw [if_neg hr]
      unfold errV
      clear h
      by_cases h0 : n < 0
      · clear hr
        go_enter Tryz.func52, Tryz.ntmps52
        go_wp2_with (go_at_call 18; refine (K1.out _).mono ?_; rintro e w1 ⟨rfl, h⟩; subst h; refine Hid.out ?_)
        refine Lib.hid ?_
        go_wp2
        refine bodyPost_ret (by simp [results, Tryz.results52, go_sem]; rfl) rfl ?_
        exact ⟨rfl, Below.refl _ _⟩
      · have h1 : 1048576 < n := by omega
        clear hr
        go_enter Tryz.func52, Tryz.ntmps52
        go_wp2_with (go_at_call 18; refine (K1.out _).mono ?_; rintro e w1 ⟨rfl, h⟩; subst h; refine Hid.out ?_)
        refine Lib.hid ?_
        go_wp2
        refine bodyPost_ret (by simp [results, Tryz.results52, go_sem]; rfl) rfl ?_
        exact ⟨rfl, Below.refl _ _⟩
  · rw [if_neg h]
    have hc := errOf_cases (bytes s)
    unfold errV
    generalize errOf (bytes s) = c at *
    have K1 := Lib.hid C1; clear C1
    rcases hc with rfl | rfl | rfl
    · exact absurd rfl h
    all_goals
      clear h
      go_enter Tryz.func52, Tryz.ntmps52
      go_wp2_with (go_at_call 18; refine (K1.out _).mono ?_; rintro e w1 ⟨rfl, h⟩; subst h; refine Hid.out ?_)
      refine Lib.hid ?_
      go_wp2
      refine bodyPost_ret (by simp [results, Tryz.results52, go_sem]; rfl) rfl ?_
      exact ⟨rfl, Below.refl _ _⟩

set_option maxRecDepth 20000 in
set_option maxHeartbeats 8000000 in
theorem powers_walk (s : ByteArray) (n : Int) (w : World) (hs : s.size ≤ 9223372036854775807) (_hn0 : -9223372036854775808 ≤ n) (_hn1 : n ≤ 9223372036854775807)
    (htab : Lib.TabIs Tryz.prog w "internal/strconv.uint64pow10" .u64 Lib.pow10Tab) :
    Calls Tryz.prog 8 #[.string s, .int .i64 n] w fun e w' => e = .returned (.bool true) ∧ Below w.heap.size w w' := by
  have hT := Lib.tabBelow_of_tabIs htab
  have hB : Below w.heap.size w w := Below.refl _ _
  have C7 : ∀ W : World, Below w.heap.size w W → Calls Tryz.prog 17 #[] W (Bret (.bool true) W) := fun W hW => awake_any W (hT.on hW).here
  have C1 : ∀ W : World, Below w.heap.size w W → Calls Tryz.prog 51 #[.string s, .int .i64 n] W (Bret (powR (bytes s) n) W) := fun W hW => bigPowR s n W hs (hT.on hW).here
  have C2 : ∀ W : World, Below w.heap.size w W → Calls Tryz.prog 52 #[.string s, .int .i64 n] W (Bret (powR (bytes s) n) W) := fun W hW => refPowR s n W hs
  have C3 : ∀ W : World, Below w.heap.size w W → Calls Tryz.prog 18 #[.string s] W (Bret (.int .i64 (errOf (bytes s) : Nat)) W) := fun W hW => bret_same (refCheck_any s W hs)
  have C4 : errOf (bytes s) = 0 → ∀ W : World, Below w.heap.size w W → Calls Tryz.prog 50 #[.string s] W (Bret (.int .i64 ((digL (bytes s)).length : Nat)) W) := fun h W _ => bret_same (refDigits_any s W (txt_size (txt_of_canon (canon_of_err h))) hs)
  obtain ⟨u, e, hp⟩ := powR_parts (bytes s) n
  rw [hp] at C1 C2
  have hc := errOf_cases (bytes s)
  generalize errOf (bytes s) = c at *
  generalize (digL (bytes s)).length = d at *
  have K1 := Lib.hid C1; have K2 := Lib.hid C2; have K3 := Lib.hid C3; have K7 := Lib.hid C7
  clear C1 C2 C3 C7 hT htab hp
  by_cases hsz : 30 < s.size
  · have t1 : decide ((30 : Int) < (s.size : Int)) = true := decide_eq_true (by omega)
    clear C4
    go_enter Tryz.func8, Tryz.ntmps8
    go_wp2_with (go_at_call 17; refine (K7.out _ hB).mono ?_; rintro e w1 ⟨rfl, hb1⟩; refine Hid.out ?_)
    have hB1 := Below.chain hB hb1; clear hb1 hB
    refine Lib.hid ?_
    go_wp2
    refine bodyPost_ret (v := .bool true) (by simp [results, Tryz.results8, go_sem]) rfl ?_
    exact ⟨rfl, hB1⟩
  · have t1 : decide ((30 : Int) < (s.size : Int)) = false := decide_eq_false (by omega)
    by_cases h40 : 40 < n
    · by_cases hmax : 1048576 < n
      · clear C4
        go_enter Tryz.func8, Tryz.ntmps8
        go_wp2_with (go_at_call 51; refine (K1.out _ hB).mono ?_; rintro e w1 ⟨rfl, hb1⟩; refine Hid.out ?_)
        have hB1 := Below.chain hB hb1; clear hb1 hB
        refine Lib.hid ?_
        go_wp2_with (go_at_call 52; refine (K2.out _ hB1).mono ?_; rintro e w2 ⟨rfl, hb2⟩; refine Hid.out ?_)
        have hB2 := Below.chain hB1 hb2; clear hb2 hB1
        refine Lib.hid ?_
        go_wp2_with (go_at_call 17; refine (K7.out _ hB2).mono ?_; rintro e w3 ⟨rfl, hb3⟩; refine Hid.out ?_)
        have hB3 := Below.chain hB2 hb3; clear hb3 hB2
        refine Lib.hid ?_
        go_wp2
        refine bodyPost_ret (v := .bool true) (by simp [results, Tryz.results8, go_sem]) rfl ?_
        exact ⟨rfl, hB3⟩
      · have hle : n ≤ 1048576 := by omega
        clear hmax
        rcases hc with rfl | rfl | rfl
        · have K4 := Lib.hid (C4 rfl); clear C4
          by_cases hd : 1 < d
          · have t2 : decide ((1 : Int) < (d : Int)) = true := decide_eq_true (by omega)
            clear hd
            go_enter Tryz.func8, Tryz.ntmps8
            go_wp2_with (go_at_call 18; refine (K3.out _ hB).mono ?_; rintro e w1 ⟨rfl, hb1⟩; refine Hid.out ?_)
            have hB1 := Below.chain hB hb1; clear hb1 hB
            refine Lib.hid ?_
            go_wp2_with (go_at_call 50; refine (K4.out _ hB1).mono ?_; rintro e w2 ⟨rfl, hb2⟩; refine Hid.out ?_)
            have hB2 := Below.chain hB1 hb2; clear hb2 hB1
            refine Lib.hid ?_
            go_wp2_with (go_at_call 17; refine (K7.out _ hB2).mono ?_; rintro e w3 ⟨rfl, hb3⟩; refine Hid.out ?_)
            have hB3 := Below.chain hB2 hb3; clear hb3 hB2
            refine Lib.hid ?_
            go_wp2
            refine bodyPost_ret (v := .bool true) (by simp [results, Tryz.results8, go_sem]) rfl ?_
            exact ⟨rfl, hB3⟩
          · have t2 : decide ((1 : Int) < (d : Int)) = false := decide_eq_false (by omega)
            clear hd
            go_enter Tryz.func8, Tryz.ntmps8
            go_wp2_with (go_at_call 18; refine (K3.out _ hB).mono ?_; rintro e w1 ⟨rfl, hb1⟩; refine Hid.out ?_)
            have hB1 := Below.chain hB hb1; clear hb1 hB
            refine Lib.hid ?_
            go_wp2_with (go_at_call 50; refine (K4.out _ hB1).mono ?_; rintro e w2 ⟨rfl, hb2⟩; refine Hid.out ?_)
            have hB2 := Below.chain hB1 hb2; clear hb2 hB1
            refine Lib.hid ?_
            go_wp2_with (go_at_call 51; refine (K1.out _ hB2).mono ?_; rintro e w3 ⟨rfl, hb3⟩; refine Hid.out ?_)
            have hB3 := Below.chain hB2 hb3; clear hb3 hB2
            refine Lib.hid ?_
            go_wp2_with (go_at_call 52; refine (K2.out _ hB3).mono ?_; rintro e w4 ⟨rfl, hb4⟩; refine Hid.out ?_)
            have hB4 := Below.chain hB3 hb4; clear hb4 hB3
            refine Lib.hid ?_
            go_wp2_with (go_at_call 17; refine (K7.out _ hB4).mono ?_; rintro e w5 ⟨rfl, hb5⟩; refine Hid.out ?_)
            have hB5 := Below.chain hB4 hb5; clear hb5 hB4
            refine Lib.hid ?_
            go_wp2
            refine bodyPost_ret (v := .bool true) (by simp [results, Tryz.results8, go_sem]) rfl ?_
            exact ⟨rfl, hB5⟩
        all_goals
          clear C4
          go_enter Tryz.func8, Tryz.ntmps8
          go_wp2_with (go_at_call 18; refine (K3.out _ hB).mono ?_; rintro e w1 ⟨rfl, hb1⟩; refine Hid.out ?_)
          have hB1 := Below.chain hB hb1; clear hb1 hB
          refine Lib.hid ?_
          go_wp2_with (go_at_call 51; refine (K1.out _ hB1).mono ?_; rintro e w2 ⟨rfl, hb2⟩; refine Hid.out ?_)
          have hB2 := Below.chain hB1 hb2; clear hb2 hB1
          refine Lib.hid ?_
          go_wp2_with (go_at_call 52; refine (K2.out _ hB2).mono ?_; rintro e w3 ⟨rfl, hb3⟩; refine Hid.out ?_)
          have hB3 := Below.chain hB2 hb3; clear hb3 hB2
          refine Lib.hid ?_
          go_wp2_with (go_at_call 17; refine (K7.out _ hB3).mono ?_; rintro e w4 ⟨rfl, hb4⟩; refine Hid.out ?_)
          have hB4 := Below.chain hB3 hb4; clear hb4 hB3
          refine Lib.hid ?_
          go_wp2
          refine bodyPost_ret (v := .bool true) (by simp [results, Tryz.results8, go_sem]) rfl ?_
          exact ⟨rfl, hB4⟩
    · clear C4
      go_enter Tryz.func8, Tryz.ntmps8
      go_wp2_with (go_at_call 51; refine (K1.out _ hB).mono ?_; rintro e w1 ⟨rfl, hb1⟩; refine Hid.out ?_)
      have hB1 := Below.chain hB hb1; clear hb1 hB
      refine Lib.hid ?_
      go_wp2_with (go_at_call 52; refine (K2.out _ hB1).mono ?_; rintro e w2 ⟨rfl, hb2⟩; refine Hid.out ?_)
      have hB2 := Below.chain hB1 hb2; clear hb2 hB1
      refine Lib.hid ?_
      go_wp2_with (go_at_call 17; refine (K7.out _ hB2).mono ?_; rintro e w3 ⟨rfl, hb3⟩; refine Hid.out ?_)
      have hB3 := Below.chain hB2 hb3; clear hb3 hB2
      refine Lib.hid ?_
      go_wp2
      refine bodyPost_ret (v := .bool true) (by simp [results, Tryz.results8, go_sem]) rfl ?_
      exact ⟨rfl, hB3⟩
end Go.Proofs.YtipnnmbjkpidoaaGreatDoor
