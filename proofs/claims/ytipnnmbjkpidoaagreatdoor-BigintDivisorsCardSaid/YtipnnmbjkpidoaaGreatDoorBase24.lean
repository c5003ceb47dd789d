import Derived.Test.YtipnnmbjkpidoaaGreatDoorBase23
import Derived.Test.YtipnnmbjkpidoaaGreatDoorBase22

set_option linter.unusedVariables false
/-
  BigintRests: the walk.
-/
namespace Go.Proofs.YtipnnmbjkpidoaaGreatDoor
open Go Go.Proofs Go.RowKit

theorem all_two (p : ByteArray → Bool) (s t : ByteArray) : [s, t].all p = (p s && p t) := by simp
theorem few_lt {s : ByteArray} {x : Int} (h : Str s x) (hf : s.size ≤ 250) : x.natAbs < 10 ^ 250 := by
  have h1 := dec_lt (allDig_decDigits x.natAbs)
  rw [dec_decDigits] at h1
  refine Nat.lt_of_lt_of_le h1 (Nat.pow_le_pow_right (by decide) ?_)
  have h2 : (bytes s).length = s.size := rfl
  rw [h.text] at h2
  by_cases hz : x < 0
  · rw [itoa_neg hz] at h2; simp at h2; omega
  · rw [itoa_nonneg hz] at h2; omega

set_option maxRecDepth 20000 in
set_option maxHeartbeats 8000000 in
theorem rests_main (s t : ByteArray) (x y : Int) (w : World) (hs : Str s x) (ht : Str t y) (hfs : s.size ≤ 250) (hft : t.size ≤ 250) (hy : y ≠ 0)
    (htab : Lib.TabIs Tryz.prog w "internal/strconv.uint64pow10" .u64 Lib.pow10Tab) :
    Calls Tryz.prog 10 #[.string s, .string t] w fun e w' => e = .returned (.bool true) ∧ Below w.heap.size w w' := by
  have hT := Lib.tabBelow_of_tabIs htab
  have hx1 := few_lt hs hfs
  have hy1 := few_lt ht hft
  have hr0 := fmod_natAbs_lt x y hy
  have hdm : y * x.fdiv y + x.fmod y = x := by have := step_fmod x y; rw [Int.mul_comm]; omega
  have hfx : ¬ 4096 < (Lib.decDigits x.natAbs).length := by have := hs.len; omega
  have h10 : (10 : Nat) ^ 251 = 10 ^ 250 * 10 := Nat.pow_succ ..
  have f1 : ¬ 4096 < (Lib.decDigits (x.fdiv y).natAbs).length := fits_of_lt 250 (Nat.lt_of_le_of_lt (fdiv_le x y hy) hx1) (by decide) (by decide)
  have f2 : ¬ 4096 < (Lib.decDigits (x.fmod y).natAbs).length := fits_of_lt 250 (Nat.lt_trans hr0 hy1) (by decide) (by decide)
  have f3 : ¬ 4096 < (Lib.decDigits (y * x.fdiv y).natAbs).length := fits_of_lt 251 (by
    rw [h10]
    generalize (10 : Nat) ^ 250 = p at *
    omega) (by decide) (by decide)
  have hsq : Str (str (Lib.itoa (x.fdiv y))) (x.fdiv y) := str_itoa (by omega)
  have hsr : Str (str (Lib.itoa (x.fmod y))) (x.fmod y) := str_itoa (by omega)
  have hsp : Str (str (Lib.itoa (y * x.fdiv y))) (y * x.fdiv y) := str_itoa (by omega)
  have hsm : Str (str (Lib.itoa ((x.fmod y).natAbs : Int))) ((x.fmod y).natAbs : Int) := str_itoa (by rw [Int.natAbs_natCast]; omega)
  have hsn : Str (str (Lib.itoa (y.natAbs : Int))) (y.natAbs : Int) := str_itoa (by rw [Int.natAbs_natCast]; exact ht.len)
  have okR : ([s, t].all okB && [s, t].all fewB) = true := by
    rw [all_two, all_two]
    unfold okB fewB
    rw [hs.err, ht.err, decide_eq_true hfs, decide_eq_true hft]; rfl
  have B0 : Below w.heap.size w (w.alloc (Obj.cells #[.string s, .string t] 22)) := (Below.refl _ _).alloc (Nat.le_refl _) _
  have C0 : Calls Tryz.prog 53 #[.slice (some ⟨w.heap.size, 0, none⟩) 2 2] (w.alloc (Obj.cells #[.string s, .string t] 22)) fun e w' => e = .returned (.bool ([s, t].all okB && [s, t].all fewB)) ∧ w' = w.alloc (Obj.cells #[.string s, .string t] 22) := right_any [s, t] w.heap.size 2 _ (fun j h => by
    match j, h with
    | 0, _ => show _ = some (Value.string s); go_cell
    | 1, _ => show _ = some (Value.string t); go_cell) (fun u hu => by
    have h1 := hs.size; have h2 := ht.size
    simp at hu
    rcases hu with rfl | rfl <;> omega) (by simp)
  rw [okR] at C0
  have C1 : ∀ W : World, Below w.heap.size w W → Calls Tryz.prog 40 #[.string s, .string t] W fun e w' => e = .returned (.tuple #[.string (str (Lib.itoa (x.fdiv y))), .int .i64 0]) ∧ Below W.heap.size W w' := fun W hW => by
    have := quoZ s t x y W hs ht hy (hT.on hW).here
    rwa [resV_fits f1] at this
  have C2 : ∀ W : World, Below w.heap.size w W → Calls Tryz.prog 42 #[.string s, .string t] W fun e w' => e = .returned (.tuple #[.string (str (Lib.itoa (x.fmod y))), .int .i64 0]) ∧ Below W.heap.size W w' := fun W hW => by
    have := remZ s t x y W hs ht hy (hT.on hW).here
    rwa [resV_fits f2] at this
  have C3 : ∀ W : World, Below w.heap.size w W → Calls Tryz.prog 38 #[.string t, .string (str (Lib.itoa (x.fdiv y)))] W fun e w' => e = .returned (.tuple #[.string (str (Lib.itoa (y * x.fdiv y))), .int .i64 0]) ∧ Below W.heap.size W w' := fun W hW => by
    have := mulZ t _ y (x.fdiv y) W ht hsq (hT.on hW).here
    rwa [resV_fits f3] at this
  have C4 : ∀ W : World, Below w.heap.size w W → Calls Tryz.prog 34 #[.string (str (Lib.itoa (y * x.fdiv y))), .string (str (Lib.itoa (x.fmod y)))] W fun e w' => e = .returned (.tuple #[.string s, .int .i64 0]) ∧ Below W.heap.size W w' := fun W hW => by
    have := addZ _ _ _ _ W hsp hsr (hT.on hW).here
    rwa [hdm, resV_fits hfx, lit_str hs] at this
  have C5 := fun W => absZ _ _ W hsr
  have C6 := fun W => absZ t y W ht
  have C7 := fun W => compareS _ _ _ _ W hsm hsn
  have hcmp : cmpI ((x.fmod y).natAbs : Int) (y.natAbs : Int) = -1 := by unfold cmpI; rw [if_pos (by omega)]
  rw [hcmp] at C7
  have C8 := fun W => signS _ _ W hsr
  have C9 := fun W => signS t y W ht
  have C10 : ∀ W : World, Below w.heap.size w W → Calls Tryz.prog 17 #[] W fun e w' => e = .returned (.bool true) ∧ Below W.heap.size W w' := fun W hW => awake_any W (hT.on hW).here
  have hsg : (cmpI (x.fmod y) 0 = 0) ∨ (cmpI (x.fmod y) 0 = 1 ∧ cmpI y 0 = 1) ∨ (cmpI (x.fmod y) 0 = -1 ∧ cmpI y 0 = -1) := by
    by_cases h0 : x.fmod y = 0
    · left; rw [h0]; rfl
    · by_cases hy0 : y < 0
      · right; right
        have : x.fmod y < 0 := by
          by_cases hx0 : x < 0
          · rw [fmod_nn x y hx0 hy0] at h0 ⊢; omega
          · rw [fmod_pn x y hy hx0 hy0] at h0 ⊢; omega
        unfold cmpI
        exact ⟨if_pos this, if_pos hy0⟩
      · right; left
        have := fmod_nonneg x y (by omega)
        unfold cmpI
        exact ⟨by rw [if_neg (by omega), if_neg h0], by rw [if_neg hy0, if_neg hy]⟩
  have hz := eq48 t (ht.ne_zero hy)
  have K0 := Lib.hid C0; have K1 := Lib.hid C1; have K2 := Lib.hid C2; have K3 := Lib.hid C3; have K4 := Lib.hid C4; have K5 := Lib.hid C5; have K6 := Lib.hid C6; have K7 := Lib.hid C7; have K8 := Lib.hid C8; have K9 := Lib.hid C9; have K10 := Lib.hid C10; have HB0 := Lib.hid B0
  clear C0 C1 C2 C3 C4 C5 C6 C7 C8 C9 C10 B0 okR hcmp hsq hsr hsp hsm hsn f1 f2 f3 h10 hfx hdm hr0 hx1 hy1 hT htab hs ht hfs hft hy
  generalize str (Lib.itoa (y * x.fdiv y)) = r3 at *
  generalize str (Lib.itoa (x.fdiv y)) = r1 at *
  generalize str (Lib.itoa ((x.fmod y).natAbs : Int)) = r4 at *
  generalize str (Lib.itoa (y.natAbs : Int)) = r5 at *
  generalize str (Lib.itoa (x.fmod y)) = r2 at *
  generalize cmpI (x.fmod y) 0 = c1 at *
  generalize cmpI y 0 = c2 at *
  have HSG := Lib.hid hsg; clear hsg
  go_enter Tryz.func10, Tryz.ntmps10
  go_wp2_with (go_at_call 53; refine K0.out.mono ?_; rintro e w0 ⟨rfl, rfl⟩; refine Hid.out ?_)
  have hB0 := HB0.out
  refine Lib.hid ?_
  go_wp2_with (go_at_call 40; refine (K1.out _ hB0).mono ?_; rintro e w1 ⟨rfl, hb1⟩; refine Hid.out ?_)
  have hB1 := Below.chain hB0 hb1; clear hB0 hb1
  refine Lib.hid ?_
  go_wp2_with (go_at_call 42; refine (K2.out _ hB1).mono ?_; rintro e w2 ⟨rfl, hb2⟩; refine Hid.out ?_)
  have hB2 := Below.chain hB1 hb2; clear hB1 hb2
  refine Lib.hid ?_
  go_wp2_with (go_at_call 38; refine (K3.out _ hB2).mono ?_; rintro e w3 ⟨rfl, hb3⟩; refine Hid.out ?_)
  have hB3 := Below.chain hB2 hb3; clear hB2 hb3
  refine Lib.hid ?_
  go_wp2_with (go_at_call 34; refine (K4.out _ hB3).mono ?_; rintro e w4 ⟨rfl, hb4⟩; refine Hid.out ?_)
  have hB4 := Below.chain hB3 hb4; clear hB3 hb4
  refine Lib.hid ?_
  go_wp2_with (go_at_call 21; refine (K5.out _).mono ?_; rintro e w5 ⟨rfl, h5⟩; subst h5; refine Hid.out ?_)
  refine Lib.hid ?_
  go_wp2_with (go_at_call 21; refine (K6.out _).mono ?_; rintro e w6 ⟨rfl, h6⟩; subst h6; refine Hid.out ?_)
  refine Lib.hid ?_
  go_wp2_with (go_at_call 30; refine (K7.out _).mono ?_; rintro e w7 ⟨rfl, h7⟩; subst h7; refine Hid.out ?_)
  refine Lib.hid ?_
  go_wp2_with (go_at_call 19; refine (K8.out _).mono ?_; rintro e w8 ⟨rfl, h8⟩; subst h8; refine Hid.out ?_)
  refine Lib.hid ?_
  go_wp2_with (go_at_call 19; refine (K9.out _).mono ?_; rintro e w9 ⟨rfl, h9⟩; subst h9; refine Hid.out ?_)
  refine Lib.hid ?_
  rcases HSG.out with rfl | ⟨rfl, rfl⟩ | ⟨rfl, rfl⟩
  all_goals
    go_wp2_with (go_at_call 17; refine (K10.out _ hB4).mono ?_; rintro e w10 ⟨rfl, hb10⟩; refine Hid.out ?_)
    have hB10 := Below.chain hB4 hb10
    refine Lib.hid ?_
    go_wp2
    refine bodyPost_ret (v := .bool true) (by simp [results, Tryz.results10, go_sem]) rfl ?_
    exact ⟨rfl, hB10⟩

set_option maxHeartbeats 4000000 in
theorem rests_awake (s t : ByteArray) (w : World) (hs : s.size ≤ 9223372036854775807) (ht : t.size ≤ 9223372036854775807) (h : ([s, t].all okB && [s, t].all fewB) = false ∨ (([s, t].all okB && [s, t].all fewB) = true ∧ t = ⟨#[48]⟩))
    (htab : Lib.TabIs Tryz.prog w "internal/strconv.uint64pow10" .u64 Lib.pow10Tab) :
    Calls Tryz.prog 10 #[.string s, .string t] w fun e w' => e = .returned (.bool true) ∧ Below w.heap.size w w' := by
  have hT := Lib.tabBelow_of_tabIs htab
  have B0 : Below w.heap.size w (w.alloc (Obj.cells #[.string s, .string t] 22)) := (Below.refl _ _).alloc (Nat.le_refl _) _
  have C0 : Calls Tryz.prog 53 #[.slice (some ⟨w.heap.size, 0, none⟩) 2 2] (w.alloc (Obj.cells #[.string s, .string t] 22)) fun e w' => e = .returned (.bool ([s, t].all okB && [s, t].all fewB)) ∧ w' = w.alloc (Obj.cells #[.string s, .string t] 22) := right_any [s, t] w.heap.size 2 _ (fun j h => by
    match j, h with
    | 0, _ => show _ = some (Value.string s); go_cell
    | 1, _ => show _ = some (Value.string t); go_cell) (fun u hu => by
    simp at hu
    rcases hu with rfl | rfl <;> omega) (by simp)
  have C10 : ∀ W : World, Below w.heap.size w W → Calls Tryz.prog 17 #[] W fun e w' => e = .returned (.bool true) ∧ Below W.heap.size W w' := fun W hW => awake_any W (hT.on hW).here
  have K10 := Lib.hid C10; have HB0 := Lib.hid B0
  clear C10 B0 hT htab
  rcases h with h | ⟨h, ht0⟩
  · rw [h] at C0
    have K0 := Lib.hid C0; clear C0 h
    go_enter Tryz.func10, Tryz.ntmps10
    go_wp2_with (go_at_call 53; refine K0.out.mono ?_; rintro e w0 ⟨rfl, rfl⟩; refine Hid.out ?_)
    refine Lib.hid ?_
    go_wp2_with (go_at_call 17; refine (K10.out _ HB0.out).mono ?_; rintro e w10 ⟨rfl, hb10⟩; refine Hid.out ?_)
    have hB10 := Below.chain HB0.out hb10
    refine Lib.hid ?_
    go_wp2
    refine bodyPost_ret (v := .bool true) (by simp [results, Tryz.results10, go_sem]) rfl ?_
    exact ⟨rfl, hB10⟩
  · rw [h] at C0
    have K0 := Lib.hid C0; clear C0 h
    subst ht0
    go_enter Tryz.func10, Tryz.ntmps10
    go_wp2_with (go_at_call 53; refine K0.out.mono ?_; rintro e w0 ⟨rfl, rfl⟩; refine Hid.out ?_)
    refine Lib.hid ?_
    go_wp2_with (go_at_call 17; refine (K10.out _ HB0.out).mono ?_; rintro e w10 ⟨rfl, hb10⟩; refine Hid.out ?_)
    have hB10 := Below.chain HB0.out hb10
    refine Lib.hid ?_
    go_wp2
    refine bodyPost_ret (v := .bool true) (by simp [results, Tryz.results10, go_sem]) rfl ?_
    exact ⟨rfl, hB10⟩

theorem rests_walk (s t : ByteArray) (w : World) (hs : s.size ≤ 9223372036854775807) (ht : t.size ≤ 9223372036854775807)
    (htab : Lib.TabIs Tryz.prog w "internal/strconv.uint64pow10" .u64 Lib.pow10Tab) :
    Calls Tryz.prog 10 #[.string s, .string t] w fun e w' => e = .returned (.bool true) ∧ Below w.heap.size w w' := by
  cases hok : ([s, t].all okB && [s, t].all fewB)
  · exact rests_awake s t w hs ht (.inl hok) htab
  · by_cases hz : t = ⟨#[48]⟩
    · exact rests_awake s t w hs ht (.inr ⟨hok, hz⟩) htab
    · rw [all_two, all_two] at hok
      simp only [Bool.and_eq_true] at hok
      obtain ⟨⟨h1, h2⟩, h3, h4⟩ := hok
      have e1 := str_of_err (of_decide_eq_true h1)
      have e2 := str_of_err (of_decide_eq_true h2)
      refine rests_main s t _ _ w e1 e2 (of_decide_eq_true h3) (of_decide_eq_true h4) (fun h0 => hz ?_) htab
      have h5 := e2.text
      rw [h0] at h5
      have h6 := lit_str e2
      rw [h0] at h6
      rw [← h6, itoa_nonneg (by omega)]
      show str (Lib.decDigits 0) = _
      rw [dec0']; rfl
end Go.Proofs.YtipnnmbjkpidoaaGreatDoor
