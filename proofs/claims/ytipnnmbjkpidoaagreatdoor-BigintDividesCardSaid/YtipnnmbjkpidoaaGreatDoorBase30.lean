import Derived.Test.YtipnnmbjkpidoaaGreatDoorBase29
import Derived.Test.YtipnnmbjkpidoaaGreatDoorBase28

set_option linter.unusedVariables false
/-
  BigintChecks: the walk.
-/
namespace Go.Proofs.YtipnnmbjkpidoaaGreatDoor
open Go Go.Proofs Go.RowKit

theorem small_err (s : ByteArray) (w : World) (hs : s.size ≤ 9223372036854775807) (he : errOf (bytes s) ≠ 0) :
    Calls Tryz.prog 22 #[.string s] w (Bret (.tuple #[.int .i64 0, .int .i64 (errOf (bytes s) : Nat)]) w) := by
  have C1 := fun W => check_any s W hs
  have hc := errOf_cases (bytes s)
  generalize errOf (bytes s) = c at *
  have K1 := Lib.hid C1; clear C1
  rcases hc with rfl | rfl | rfl
  · exact absurd rfl he
  all_goals
    clear he
    go_enter Tryz.func22, Tryz.ntmps22
    go_wp2_with (go_at_call 24; refine (K1.out _).mono ?_; rintro e w1 ⟨rfl, rfl⟩; refine Hid.out ?_)
    refine Lib.hid ?_
    go_wp2
    refine bodyPost_ret (by simp [results, Tryz.results22, go_sem]; rfl) rfl ?_
    exact ⟨rfl, Below.refl _ _⟩
theorem all_one (p : ByteArray → Bool) (s : ByteArray) : [s].all p = p s := by simp
theorem itoa_zero : (Lib.itoa 0) = [48] := by rw [itoa_nonneg (by omega)]; exact dec0'
theorem valZ_zero : valZ [48] = 0 := by rw [← itoa_zero, valZ_itoa]

set_option maxRecDepth 20000 in
set_option maxHeartbeats 8000000 in
theorem checks_walk (s : ByteArray) (n : Int) (w : World) (hs : s.size ≤ 9223372036854775807) (hn0 : -9223372036854775808 ≤ n) (hn1 : n ≤ 9223372036854775807)
    (htab : Lib.TabIs Tryz.prog w "internal/strconv.uint64pow10" .u64 Lib.pow10Tab) :
    Calls Tryz.prog 3 #[.string s, .int .i64 n] w fun e w' => e = .returned (.bool true) ∧ Below w.heap.size w w' := by
  have hT := Lib.tabBelow_of_tabIs htab
  have B0 : Below w.heap.size w (w.alloc (Obj.cells #[.string s] 22)) := (Below.refl _ _).alloc (Nat.le_refl _) _
  have C0 : Calls Tryz.prog 16 #[.slice (some ⟨w.heap.size, 0, none⟩) 1 1] (w.alloc (Obj.cells #[.string s] 22)) fun e w' => e = .returned (.bool ([s].all fewB)) ∧ w' = w.alloc (Obj.cells #[.string s] 22) := few_any [s] w.heap.size 1 _ (fun j h => by
    match j, h with
    | 0, _ => show _ = some (Value.string s); go_cell) (fun u hu => by
    simp at hu
    subst hu; omega) (by simp)
  have C10 : ∀ W : World, Below w.heap.size w W → Calls Tryz.prog 17 #[] W (Bret (.bool true) W) := fun W hW => awake_any W (hT.on hW).here
  have K10 := Lib.hid C10; have HB0 := Lib.hid B0
  clear C10 B0
  rw [all_one] at C0
  cases hf : fewB s
  · rw [hf] at C0
    have K0 := Lib.hid C0; clear C0 hf hs hT htab hn0 hn1
    go_enter Tryz.func3, Tryz.ntmps3
    go_wp2_with (go_at_call 16; refine K0.out.mono ?_; rintro e w0 ⟨rfl, rfl⟩; refine Hid.out ?_)
    have hB0 := HB0.out
    refine Lib.hid ?_
    go_wp2_with (go_at_call 17; refine (K10.out _ hB0).mono ?_; rintro e w1 ⟨rfl, hb1⟩; refine Hid.out ?_)
    have hB1 := Below.chain hB0 hb1; clear hb1 hB0
    refine Lib.hid ?_
    go_wp2
    refine bodyPost_ret (v := .bool true) (by simp [results, Tryz.results3, go_sem]) rfl ?_
    exact ⟨rfl, hB1⟩
  · rw [hf] at C0
    have K0 := Lib.hid C0; clear C0
    have hf2 : s.size ≤ 250 := by unfold fewB at hf; simpa using hf
    clear hf
    have C1 : ∀ W : World, Below w.heap.size w W → Calls Tryz.prog 18 #[.string s] W (Bret (.int .i64 (errOf (bytes s) : Nat)) W) := fun W hW => bret_same (refCheck_any s W hs)
    have C2 : ∀ W : World, Below w.heap.size w W → Calls Tryz.prog 19 #[.string s] W (Bret (cmpR (bytes s) [48]) W) := fun W hW => bret_same (sign_any s W hs)
    have C3 : ∀ W : World, Below w.heap.size w W → Calls Tryz.prog 20 #[.string s] W (Bret (if errOf (bytes s) = 0 then .tuple #[.string (str (negL (bytes s))), .int .i64 0] else errV (errOf (bytes s))) W) := fun W hW => bret_same (neg_any s W (by omega))
    have C4 : ∀ W : World, Below w.heap.size w W → Calls Tryz.prog 21 #[.string s] W (Bret (if errOf (bytes s) = 0 then .tuple #[.string (str (digL (bytes s))), .int .i64 0] else errV (errOf (bytes s))) W) := fun W hW => bret_same (abs_any s W hs)
    have C6 : ∀ W : World, Below w.heap.size w W → Calls Tryz.prog 23 #[.string s] W (Bret (smallV (bytes s)) W) := fun W hW => bret_same (refSmall_any s W (by omega))
    have C7 : ∀ W : World, Below w.heap.size w W → Calls Tryz.prog 24 #[.string s] W (Bret (.int .i64 (errOf (bytes s) : Nat)) W) := fun W hW => bret_same (check_any s W hs)
    have C8 : ∀ W : World, Below w.heap.size w W → Calls Tryz.prog 25 #[.int .i64 n] W (Bret (.string (str (Lib.itoa n))) W) := fun W hW => of_any' n hn0 hn1 W (hT.on hW).here
    have C9 : ∀ W : World, Below w.heap.size w W → Calls Tryz.prog 26 #[.int .i64 n] W (Bret (.string (str (Lib.itoa n))) W) := fun W hW => bret_same (whole_any n W hn0 hn1)
    have he0 : errBoth (bytes s) [48] = errOf (bytes s) := by
      unfold errBoth
      by_cases h : errOf (bytes s) = 0
      · rw [if_pos h, h]; decide
      · rw [if_neg h]
    unfold cmpR at C2
    rw [he0] at C2
    by_cases hz : errOf (bytes s) = 0
    · have hS := str_of_err hz
      obtain ⟨z, hzz⟩ : ∃ z, z = valZ (bytes s) := ⟨_, rfl⟩
      rw [← hzz] at hS
      have C5 : ∀ W : World, Below w.heap.size w W → Calls Tryz.prog 22 #[.string s] W (Bret (if 1048576 < z.natAbs then .tuple #[.int .i64 0, .int .i64 2] else .tuple #[.int .i64 z, .int .i64 0]) W) := fun W hW => smallZ s z W hS (hT.on hW).here
      have C11 : ∀ W : World, Below w.heap.size w W → Calls Tryz.prog 27 #[.string s] W (Bret (.int .i64 (cmpI z 0)) W) := fun W hW => bret_same (refSign_any s z W hS)
      have C12 : ∀ W : World, Below w.heap.size w W → Calls Tryz.prog 28 #[.string s] W (Bret (.string (str (Lib.itoa (-z)))) W) := fun W hW => bret_same (refNegated_any s z W hS)
      have C13 : ∀ W : World, Below w.heap.size w W → Calls Tryz.prog 29 #[.string s] W (Bret (.string (str (Lib.itoa (z.natAbs : Int)))) W) := fun W hW => bret_same (refMagnitude_any s z W hS)
      unfold smallV at C6
      rw [hz] at C1 C2 C3 C4 C6 C7
      rw [if_pos rfl] at C2 C3 C4 C6
      rw [← hzz] at C6
      have ho : ordZ (bytes s) [48] = cmpI z 0 := by rw [hS.text, ← itoa_zero]; exact ordZ_itoa z 0
      have e1 : str (negL (bytes s)) = str (Lib.itoa (-z)) := by rw [hS.text, negL_itoa]
      have e2 : str (digL (bytes s)) = str (Lib.itoa (z.natAbs : Int)) := by rw [hS.text, digL_itoa, itoa_nonneg (by omega), Int.natAbs_natCast]
      rw [ho] at C2
      rw [e1] at C3
      rw [e2] at C4
      generalize str (Lib.itoa (-z)) = x1 at *
      generalize str (Lib.itoa (z.natAbs : Int)) = x2 at *
      generalize str (Lib.itoa n) = x3 at *
      generalize cmpI z 0 = sg at *
      clear hS e1 e2 ho he0 hz hT htab hs hf2 hn0 hn1
      by_cases hb : 1048576 < z.natAbs
      case' pos => (rw [if_pos hb] at C5 C6)
      case' neg => (rw [if_neg hb] at C5 C6)
      all_goals
        have K1 := Lib.hid C1; have K2 := Lib.hid C2; have K3 := Lib.hid C3; have K4 := Lib.hid C4; have K5 := Lib.hid C5; have K6 := Lib.hid C6; have K7 := Lib.hid C7; have K8 := Lib.hid C8; have K9 := Lib.hid C9; have K11 := Lib.hid C11; have K12 := Lib.hid C12; have K13 := Lib.hid C13
        clear C1 C2 C3 C4 C5 C6 C7 C8 C9 C11 C12 C13 hb hzz
        go_enter Tryz.func3, Tryz.ntmps3
        go_wp2_with (go_at_call 16; refine K0.out.mono ?_; rintro e w0 ⟨rfl, rfl⟩; refine Hid.out ?_)
        have hB0 := HB0.out
        refine Lib.hid ?_
        go_wp2_with (go_at_call 18; refine (K1.out _ hB0).mono ?_; rintro e w1 ⟨rfl, hb1⟩; refine Hid.out ?_)
        have hB1 := Below.chain hB0 hb1; clear hb1 hB0
        refine Lib.hid ?_
        go_wp2_with (go_at_call 19; refine (K2.out _ hB1).mono ?_; rintro e w2 ⟨rfl, hb2⟩; refine Hid.out ?_)
        have hB2 := Below.chain hB1 hb2; clear hb2 hB1
        refine Lib.hid ?_
        go_wp2_with (go_at_call 20; refine (K3.out _ hB2).mono ?_; rintro e w3 ⟨rfl, hb3⟩; refine Hid.out ?_)
        have hB3 := Below.chain hB2 hb3; clear hb3 hB2
        refine Lib.hid ?_
        go_wp2_with (go_at_call 21; refine (K4.out _ hB3).mono ?_; rintro e w4 ⟨rfl, hb4⟩; refine Hid.out ?_)
        have hB4 := Below.chain hB3 hb4; clear hb4 hB3
        refine Lib.hid ?_
        go_wp2_with (go_at_call 22; refine (K5.out _ hB4).mono ?_; rintro e w5 ⟨rfl, hb5⟩; refine Hid.out ?_)
        have hB5 := Below.chain hB4 hb5; clear hb5 hB4
        refine Lib.hid ?_
        go_wp2_with (go_at_call 23; refine (K6.out _ hB5).mono ?_; rintro e w6 ⟨rfl, hb6⟩; refine Hid.out ?_)
        have hB6 := Below.chain hB5 hb6; clear hb6 hB5
        refine Lib.hid ?_
        go_wp2_with (go_at_call 24; refine (K7.out _ hB6).mono ?_; rintro e w7 ⟨rfl, hb7⟩; refine Hid.out ?_)
        have hB7 := Below.chain hB6 hb7; clear hb7 hB6
        refine Lib.hid ?_
        go_wp2_with (go_at_call 25; refine (K8.out _ hB7).mono ?_; rintro e w8 ⟨rfl, hb8⟩; refine Hid.out ?_)
        have hB8 := Below.chain hB7 hb8; clear hb8 hB7
        refine Lib.hid ?_
        go_wp2_with (go_at_call 26; refine (K9.out _ hB8).mono ?_; rintro e w9 ⟨rfl, hb9⟩; refine Hid.out ?_)
        have hB9 := Below.chain hB8 hb9; clear hb9 hB8
        refine Lib.hid ?_
        go_wp2_with (go_at_call 17; refine (K10.out _ hB9).mono ?_; rintro e w10 ⟨rfl, hb10⟩; refine Hid.out ?_)
        have hB10 := Below.chain hB9 hb10; clear hb10 hB9
        refine Lib.hid ?_
        go_wp2_with (go_at_call 27; refine (K11.out _ hB10).mono ?_; rintro e w11 ⟨rfl, hb11⟩; refine Hid.out ?_)
        have hB11 := Below.chain hB10 hb11; clear hb11 hB10
        refine Lib.hid ?_
        go_wp2_with (go_at_call 28; refine (K12.out _ hB11).mono ?_; rintro e w12 ⟨rfl, hb12⟩; refine Hid.out ?_)
        have hB12 := Below.chain hB11 hb12; clear hb12 hB11
        refine Lib.hid ?_
        go_wp2_with (go_at_call 29; refine (K13.out _ hB12).mono ?_; rintro e w13 ⟨rfl, hb13⟩; refine Hid.out ?_)
        have hB13 := Below.chain hB12 hb13; clear hb13 hB12
        refine Lib.hid ?_
        go_wp2
        refine bodyPost_ret (v := .bool true) (by simp [results, Tryz.results3, go_sem]) rfl ?_
        exact ⟨rfl, hB13⟩
    · have hne := errOf_cases (bytes s)
      have C5 : ∀ W : World, Below w.heap.size w W → Calls Tryz.prog 22 #[.string s] W (Bret (.tuple #[.int .i64 0, .int .i64 (errOf (bytes s) : Nat)]) W) := fun W hW => small_err s W hs hz
      unfold smallV at C6
      rw [if_neg hz] at C2 C3 C4 C6
      unfold errV at C3 C4
      generalize errOf (bytes s) = c at *
      generalize str (Lib.itoa n) = x3 at *
      clear he0 hT htab hs hf2 hn0 hn1
      rcases hne with rfl | rfl | rfl
      · exact absurd rfl hz
      all_goals
        have K1 := Lib.hid C1; have K2 := Lib.hid C2; have K3 := Lib.hid C3; have K4 := Lib.hid C4; have K5 := Lib.hid C5; have K6 := Lib.hid C6; have K7 := Lib.hid C7; have K8 := Lib.hid C8; have K9 := Lib.hid C9
        clear C1 C2 C3 C4 C5 C6 C7 C8 C9 hz
        go_enter Tryz.func3, Tryz.ntmps3
        go_wp2_with (go_at_call 16; refine K0.out.mono ?_; rintro e w0 ⟨rfl, rfl⟩; refine Hid.out ?_)
        have hB0 := HB0.out
        refine Lib.hid ?_
        go_wp2_with (go_at_call 18; refine (K1.out _ hB0).mono ?_; rintro e w1 ⟨rfl, hb1⟩; refine Hid.out ?_)
        have hB1 := Below.chain hB0 hb1; clear hb1 hB0
        refine Lib.hid ?_
        go_wp2_with (go_at_call 19; refine (K2.out _ hB1).mono ?_; rintro e w2 ⟨rfl, hb2⟩; refine Hid.out ?_)
        have hB2 := Below.chain hB1 hb2; clear hb2 hB1
        refine Lib.hid ?_
        go_wp2_with (go_at_call 20; refine (K3.out _ hB2).mono ?_; rintro e w3 ⟨rfl, hb3⟩; refine Hid.out ?_)
        have hB3 := Below.chain hB2 hb3; clear hb3 hB2
        refine Lib.hid ?_
        go_wp2_with (go_at_call 21; refine (K4.out _ hB3).mono ?_; rintro e w4 ⟨rfl, hb4⟩; refine Hid.out ?_)
        have hB4 := Below.chain hB3 hb4; clear hb4 hB3
        refine Lib.hid ?_
        go_wp2_with (go_at_call 22; refine (K5.out _ hB4).mono ?_; rintro e w5 ⟨rfl, hb5⟩; refine Hid.out ?_)
        have hB5 := Below.chain hB4 hb5; clear hb5 hB4
        refine Lib.hid ?_
        go_wp2_with (go_at_call 23; refine (K6.out _ hB5).mono ?_; rintro e w6 ⟨rfl, hb6⟩; refine Hid.out ?_)
        have hB6 := Below.chain hB5 hb6; clear hb6 hB5
        refine Lib.hid ?_
        go_wp2_with (go_at_call 24; refine (K7.out _ hB6).mono ?_; rintro e w7 ⟨rfl, hb7⟩; refine Hid.out ?_)
        have hB7 := Below.chain hB6 hb7; clear hb7 hB6
        refine Lib.hid ?_
        go_wp2_with (go_at_call 25; refine (K8.out _ hB7).mono ?_; rintro e w8 ⟨rfl, hb8⟩; refine Hid.out ?_)
        have hB8 := Below.chain hB7 hb8; clear hb8 hB7
        refine Lib.hid ?_
        go_wp2_with (go_at_call 26; refine (K9.out _ hB8).mono ?_; rintro e w9 ⟨rfl, hb9⟩; refine Hid.out ?_)
        have hB9 := Below.chain hB8 hb9; clear hb9 hB8
        refine Lib.hid ?_
        go_wp2_with (go_at_call 17; refine (K10.out _ hB9).mono ?_; rintro e w10 ⟨rfl, hb10⟩; refine Hid.out ?_)
        have hB10 := Below.chain hB9 hb10; clear hb10 hB9
        refine Lib.hid ?_
        go_wp2
        refine bodyPost_ret (v := .bool true) (by simp [results, Tryz.results3, go_sem]) rfl ?_
        exact ⟨rfl, hB10⟩
end Go.Proofs.YtipnnmbjkpidoaaGreatDoor
