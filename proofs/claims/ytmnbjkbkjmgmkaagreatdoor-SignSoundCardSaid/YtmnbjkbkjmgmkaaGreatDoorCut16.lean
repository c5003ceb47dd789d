import Derived.OpenShut
import Derived.ChangeMaps5
import Derived.Test.YtmnbjkbkjmgmkaaGreatDoorCut1
import Derived.Test.YtmnbjkbkjmgmkaaGreatDoorCut14

set_option linter.unusedVariables false
/-
  An array of two strings by value, opened and shut.
-/
set_option linter.unusedSimpArgs false
set_option linter.unusedVariables false
namespace Go.Proofs.YtmnbjkbkjmgmkaaGreatDoor
open Go Go.Proofs Go.ChangeShapes Go.WideShapes Go.ChangeMaps
section
variable {H : Type} {enc : TypeId × Value → H} {P : Program} {w : World} {base : Nat} {sp : Nat → Bool} {held : Bool}
theorem open_two {r : Reach} {b0 : Nat} {t e : TypeId} {v : Value} {d : DataW H} {ps : List MemPlace} (ht : P.underlying t = some (.array 2 e)) (he : P.underlying e = some .string) (hc : P.cellsOf e = 1) (hc2 : P.cellsOf t = 2)
    (hv : Value.okWide P w r b0 t v) (h : DataW.Trod enc P w base sp held t v d ps) :
    ∃ s0 s1 : ByteArray, v = .agg #[.string s0, .string s1] ∧ d = .agg [.lit (.string s0.data.toList), .lit (.string s1.data.toList)] ∧ ps = [] ∧ s0.size ≤ maxLen ∧ s1.size ≤ maxLen := by
  unfold Value.okWide at hv
  rw [ht] at hv
  obtain ⟨⟨cs⟩, rfl, hsz, _⟩ := hv
  have hs : cs.length = 2 := by simpa [hc2] using hsz
  match cs, hs with
  | [c0, c1], _ =>
    obtain ⟨fuel, hf⟩ := h
    obtain ⟨xs, m, rfl, hx, _, hl, hel⟩ := DataW.trod_array ht hf
    match xs, hl with
    | [y0, y1], _ =>
      have h0 := hel 0 (by omega); have h1 := hel 1 (by omega)
      simp only [Value.cells, hc, List.drop_zero, Nat.zero_mul, Nat.one_mul] at h0 h1
      obtain ⟨s0, e0, r0, z0⟩ := DataW.trod_string he (show DataW.trod enc P w base sp held m e [c0] = some y0 from h0)
      obtain ⟨s1, e1, r1, z1⟩ := DataW.trod_string he (show DataW.trod enc P w base sp held m e [c1] = some y1 from h1)
      cases e0; cases e1; subst r0 r1
      simp only [Prod.mk.injEq] at hx
      exact ⟨s0, s1, rfl, hx.1, hx.2, z0, z1⟩
theorem shut_two {t e : TypeId} {s0 s1 : ByteArray} (ht : P.underlying t = some (.array 2 e)) (he : P.underlying e = some .string) (hc : P.cellsOf e = 1) (hc2 : P.cellsOf t = 2) (h0 : s0.size ≤ maxLen) (h1 : s1.size ≤ maxLen) :
    DataW.Trod enc P w base sp held t (.agg #[.string s0, .string s1]) (.agg [.lit (.string s0.data.toList), .lit (.string s1.data.toList)]) [] :=
  ⟨2, by
    have r2 : List.range 2 = [0, 1] := rfl
    simp [DataW.trod, Value.cells, ht, he, hc, hc2, h0, h1, r2]⟩
end
end Go.Proofs.YtmnbjkbkjmgmkaaGreatDoor

set_option linter.unusedSimpArgs false
set_option linter.unusedVariables false
namespace Go.Proofs.YtmnbjkbkjmgmkaaGreatDoor
open Go Go.Proofs Go.RowKit Go.Shelf
attribute [local go_sem] Oper.semAt_some
theorem sgOf_str2 (a : ByteArray) (x : Int) (w : World) (h : Str a x) : Calls Tryz.prog 11 #[.string a] w fun e w' => e = .returned (.tuple #[.int .i64 (sgnS x : Nat), .int .i64 0]) ∧ w' = w := by
  have h1 := h.size
  have := sgOf_any a w (by omega)
  unfold ofR at this
  rw [h.err, if_pos rfl, h.text, valZ_itoa] at this
  exact this
theorem nine_of {a : Int} (h0 : -4 ≤ a) (h1 : a ≤ 4) : a = -4 ∨ a = -3 ∨ a = -2 ∨ a = -1 ∨ a = 0 ∨ a = 1 ∨ a = 2 ∨ a = 3 ∨ a = 4 := by omega
theorem nine_str {a : Int} (h0 : -4 ≤ a) (h1 : a ≤ 4) : Str (str (Lib.itoa a)) a ∧ (str (Lib.itoa a)).size ≤ 250 := by
  have hd : (Lib.decDigits a.natAbs).length ≤ 1 := decDigits_length_le _ 1 (by decide) (by omega)
  refine ⟨⟨bytes_str _, by omega⟩, ?_⟩
  have : (str (Lib.itoa a)).size = (Lib.itoa a).length := congrArg List.length (bytes_str (Lib.itoa a))
  rw [this]
  by_cases hx : a < 0
  · rw [itoa_neg hx]; simp; omega
  · rw [itoa_nonneg hx]; omega
set_option maxRecDepth 100000 in
set_option maxHeartbeats 16000000 in
theorem lbest_walk (m xs ys : Nat) (w : World) (hm : m < 256) (hxs : xs < 256) (hys : ys < 256) (hT : SgTab w) (hP : PowTab w) :
    Calls Tryz.prog 4 #[.int .u8 (m : Int), .agg #[.int .u8 (xs : Int), .int .u8 (ys : Int)]] w fun e w' => e = .returned (.bool true) ∧ Below w.heap.size w w' := by
  have CW : ∀ W, Below w.heap.size w W → Calls Tryz.prog 6 #[] W fun e w' => e = .returned (.bool true) ∧ Below W.heap.size W w' := fun W h => awake19_any W (hT.on h)
  have q0 := tmod8 xs; have q1 := tmod8 ys
  have l0 : xs % 8 < 8 := Nat.mod_lt _ (by decide)
  have l1 : ys % 8 < 8 := Nat.mod_lt _ (by decide)
  generalize xs % 8 = s at *
  generalize ys % 8 = t at *
  have l2 : m % 5 < 5 := Nat.mod_lt _ (by decide)
  have CA : ∀ W, Below w.heap.size w W → Calls Tryz.prog 8 #[.int .u8 (m : Int), .int .i64 (s : Int), .int .i64 (t : Int)] W fun e w' => e = .returned (.tuple #[.int .i64 (cmb (m % 5) s t : Nat), .int .i64 0]) ∧ Below W.heap.size W w' := fun W h => by
    have := apply19_any m (s : Nat) t W hm (hT.on h)
    rw [opR_nat _ l0 l1, errB_nat l0 l1] at this
    exact this
  have CO : ∀ n : Int, -4 ≤ n → n ≤ 4 → ∀ W, Below w.heap.size w W → Calls Tryz.prog 10 #[.int .i64 n] W fun e w' => e = .returned (.string (str (Lib.itoa n))) ∧ Below W.heap.size W w' := fun n h0 h1 W h => of_any' n (by omega) (by omega) W (hP.on h)
  have CH : ∀ (u : Nat), u < 8 → ∀ n : Int, -4 ≤ n → n ≤ 4 → ∀ W, Calls Tryz.prog 7 #[.int .i64 (u : Int), .string (str (Lib.itoa n))] W fun e w' => e = .returned (.tuple #[.bool (hasS u n), .int .i64 0]) ∧ w' = W := fun u hu n h0 h1 W => sgHolds_str u hu _ n W (nine_str h0 h1).1
  have CC : ∀ a b : Int, -4 ≤ a → a ≤ 4 → -4 ≤ b → b ≤ 4 → ∀ W, Below w.heap.size w W → Calls Tryz.prog 9 #[.int .u8 (m : Int), .string (str (Lib.itoa a)), .string (str (Lib.itoa b))] W fun e w' => e = .returned (cmpC (m % 5) a b) ∧ Below W.heap.size W w' := fun a b a0 a1 b0 b1 W h =>
    compute19_any m _ _ a b W hm (nine_str a0 a1).1 (nine_str b0 b1).1 (nine_str a0 a1).2 (nine_str b0 b1).2 (hP.on h)
  have CS : ∀ a b : Int, -4 ≤ a → a ≤ 4 → -4 ≤ b → b ≤ 4 → (3 ≤ m % 5 → b ≠ 0) → ∀ W, Calls Tryz.prog 11 #[.string (str (Lib.itoa (valC (m % 5) a b)))] W fun e w' => e = .returned (.tuple #[.int .i64 (sgnS (valC (m % 5) a b) : Nat), .int .i64 0]) ∧ w' = W := fun a b a0 a1 b0 b1 hz W =>
    sgOf_str2 _ _ W ⟨bytes_str _, valC_fits (m % 5) l2 a b (str_digits (nine_str a0 a1).1 (nine_str a0 a1).2) (str_digits (nine_str b0 b1).1 (nine_str b0 b1).2) hz⟩
  have hbt : btL (m % 5) s t nineI = cmb (m % 5) s t := bt_eq8 ⟨m % 5, l2⟩ ⟨s, l0⟩ ⟨t, l1⟩
  have HBT := Lib.hid hbt
  clear hbt
  generalize m % 5 = k0 at *
  generalize cmb k0 s t = R at *
  have KW := Lib.hid CW; have KA := Lib.hid CA; have KO := Lib.hid CO; have KH1 := Lib.hid (CH s l0); have KH2 := Lib.hid (CH t l1); have KC := Lib.hid CC; have KS := Lib.hid CS
  clear CW CA CO CH CC CS hT hP
  go_enter Tryz.func4, Tryz.ntmps4
  go_wp2_with fail
  go_region
  have HB0 : Below w.heap.size w (w.alloc (Obj.cells #[.int .u8 (xs : Int), .int .u8 (ys : Int)] 24)).drew := ((Below.refl _ w).alloc (Nat.le_refl _) _).drew
  generalize (w.alloc (Obj.cells #[.int .u8 (xs : Int), .int .u8 (ys : Int)] 24)).drew = w0 at *
  clear q0 q1
  go_wp2_with (go_at_call 8; refine (KA.out _ HB0).mono ?_; clear KA; rintro e w1 ⟨rfl, hb1⟩)
  have HB1 := Below.chain HB0 hb1
  clear hb1 HB0
  go_loopw [9, 10] (fun x p wr => Below w.heap.size w wr ∧ ∃ k : Nat, k ≤ 9 ∧ p = .int .i64 (-4 + (k : Int)) ∧ x = .int .i64 (btL k0 s t (nineI.take k) : Nat)) (fun _ p _ => (5 - intOf p).toNat)
  case atStart => exact ⟨HB1, 0, by omega, rfl, rfl⟩
  case round =>
    obtain ⟨HB2, k, hk, rfl, rfl⟩ := hrel
    by_cases hlt : k < 9
    · have htk := nine_take ⟨k, hlt⟩
      dsimp only at htk
      have hsn := btL_snoc k0 s t (nineI.take k) (-4 + (k : Int))
      rw [← htk] at hsn
      have hacc := btL_lt k0 s t (nineI.take k)
      generalize btL k0 s t (nineI.take k) = acc at *
      generalize hA : -4 + (k : Int) = a at *
      have a0 : -4 ≤ a := by omega
      have a1 : a ≤ 4 := by omega
      have hk2 : -4 + ((k + 1 : Nat) : Int) = a + 1 := by omega
      have HSN := Lib.hid hsn; have HK2 := Lib.hid hk2; have HLT := Lib.hid hlt; clear hsn htk hA hk2 hlt hk HB1
      have t1 : decide (a ≤ 4) = true := decide_eq_true a1
      go_wp2
      go_loopw [9, 11] (fun x p wr => Below w.heap.size w wr ∧ ∃ j : Nat, j ≤ 9 ∧ p = .int .i64 (-4 + (j : Int)) ∧ x = .int .i64 (btRow k0 s t a acc (nineI.take j) : Nat)) (fun _ p _ => (5 - intOf p).toNat)
      case atStart => exact ⟨HB2, 0, by omega, rfl, rfl⟩
      case round =>
        obtain ⟨HB3, j, hj, rfl, rfl⟩ := hrel
        by_cases hjl : j < 9
        · have htk := nine_take ⟨j, hjl⟩
          dsimp only at htk
          have hsn := btRow_snoc k0 s t a acc (nineI.take j) (-4 + (j : Int))
          rw [← htk] at hsn
          have hac2 := btRow_lt k0 s t a acc (nineI.take j) hacc
          generalize btRow k0 s t a acc (nineI.take j) = ac2 at *
          generalize hb : -4 + (j : Int) = b at *
          have b0 : -4 ≤ b := by omega
          have b1 : b ≤ 4 := by omega
          have hj2 : -4 + ((j + 1 : Nat) : Int) = b + 1 := by omega
          have cA1 := KO.out a a0 a1
          have cB1 := KO.out b b0 b1
          have cH1 := KH1.out a a0 a1
          have cH2 := KH2.out b b0 b1
          have cC := KC.out a b a0 a1 b0 b1
          have cS := KS.out a b a0 a1 b0 b1
          unfold btStep at hsn
          unfold cmpC at cC
          have t2 : decide (b ≤ 4) = true := decide_eq_true b1
          have hor := bOr hac2 (sgnS_lt (valC k0 a b))
          have hz : (3 ≤ k0 ∧ b = 0) ∨ ¬ (3 ≤ k0 ∧ b = 0) := Decidable.em _
          have hzb : (decide (3 ≤ k0) && decide (b = 0)) = decide (3 ≤ k0 ∧ b = 0) := by simp
          rw [hzb] at hsn
          generalize str (Lib.itoa (valC k0 a b)) = sc at *
          generalize sgnS (valC k0 a b) = g at *
          generalize hasS s a = f1 at *
          generalize hasS t b = f2 at *
          generalize str (Lib.itoa a) = sa at *
          generalize str (Lib.itoa b) = sb at *
          have K1 := Lib.hid cA1; have K2 := Lib.hid cH1; have K3 := Lib.hid cB1; have K4 := Lib.hid cH2; have K5 := Lib.hid cA1; have K6 := Lib.hid cB1; have HJ := Lib.hid hjl
          clear cA1 cB1 cH1 cH2 htk hb hjl KO KH1 KH2 KC KS hzb
          rcases hz with hz | hz
          · rw [if_pos hz] at cC
            rw [decide_eq_true hz] at hsn
            have HS := Lib.hid hsn; have K7 := Lib.hid cC
            clear hsn cC cS hz
            cases f1 <;> cases f2
            all_goals go_wp2_with (first | (go_at_call 10; refine (K1.out _ HB3).mono ?_; clear K1; rintro e v4 ⟨rfl, hb4⟩; have HB4 := Below.chain HB3 hb4; clear hb4) | (go_at_call 7; refine (K2.out _).mono ?_; clear K2; rintro e v ⟨rfl, h⟩; subst h) | (go_at_call 10; refine (K3.out _ HB4).mono ?_; clear K3; rintro e v5 ⟨rfl, hb5⟩; have HB5 := Below.chain HB4 hb5; clear hb5) | (go_at_call 7; refine (K4.out _).mono ?_; clear K4; rintro e v ⟨rfl, h⟩; subst h) | (go_at_call 10; refine (K5.out _ HB5).mono ?_; clear K5; rintro e v6 ⟨rfl, hb6⟩; have HB6 := Below.chain HB5 hb6; clear hb6) | (go_at_call 10; refine (K6.out _ HB6).mono ?_; clear K6; rintro e v7 ⟨rfl, hb7⟩; have HB7 := Below.chain HB6 hb7; clear hb7) | (go_at_call 9; refine (K7.out _ HB7).mono ?_; clear K7; rintro e v8 ⟨rfl, hb8⟩; have HB8 := Below.chain HB7 hb8; clear hb8) | (go_at_call 11; refine (K8.out _).mono ?_; clear K8; rintro e v ⟨rfl, h⟩; subst h))
            all_goals go_roundw
            all_goals first | exact ⟨HB8, j + 1, by have := HJ.out; omega, by first | (rw [hj2]; done) | (rw [hj2]; go_num), by rw [HS.out]; rfl⟩ | (simp [intOf]; omega)
          · rw [if_neg hz] at cC
            rw [decide_eq_false hz] at hsn
            have cS' := cS (fun h1 h2 => hz ⟨h1, h2⟩)
            have HS := Lib.hid hsn; have K7 := Lib.hid cC; have K8 := Lib.hid cS'
            clear hsn cC cS cS' hz
            cases f1 <;> cases f2
            all_goals go_wp2_with (first | (go_at_call 10; refine (K1.out _ HB3).mono ?_; clear K1; rintro e v4 ⟨rfl, hb4⟩; have HB4 := Below.chain HB3 hb4; clear hb4) | (go_at_call 7; refine (K2.out _).mono ?_; clear K2; rintro e v ⟨rfl, h⟩; subst h) | (go_at_call 10; refine (K3.out _ HB4).mono ?_; clear K3; rintro e v5 ⟨rfl, hb5⟩; have HB5 := Below.chain HB4 hb5; clear hb5) | (go_at_call 7; refine (K4.out _).mono ?_; clear K4; rintro e v ⟨rfl, h⟩; subst h) | (go_at_call 10; refine (K5.out _ HB5).mono ?_; clear K5; rintro e v6 ⟨rfl, hb6⟩; have HB6 := Below.chain HB5 hb6; clear hb6) | (go_at_call 10; refine (K6.out _ HB6).mono ?_; clear K6; rintro e v7 ⟨rfl, hb7⟩; have HB7 := Below.chain HB6 hb7; clear hb7) | (go_at_call 9; refine (K7.out _ HB7).mono ?_; clear K7; rintro e v8 ⟨rfl, hb8⟩; have HB8 := Below.chain HB7 hb8; clear hb8) | (go_at_call 11; refine (K8.out _).mono ?_; clear K8; rintro e v ⟨rfl, h⟩; subst h))
            all_goals go_roundw
            all_goals first | exact ⟨HB8, j + 1, by have := HJ.out; omega, by first | (rw [hj2]; done) | (rw [hj2]; go_num), by rw [HS.out]; rfl⟩ | (simp [intOf]; omega)
        · have hj9 : j = 9 := by omega
          subst hj9
          go_wp2
          go_roundw
          case rel => exact ⟨HB3, k + 1, by have := HLT.out; omega, by first | (rw [HK2.out]; done) | (rw [HK2.out]; go_num), by rw [HSN.out]; rfl⟩
          case measure => simp [intOf]; omega
    · have hk9 : k = 9 := by omega
      subst hk9
      have e9 : btL k0 s t (nineI.take 9) = R := HBT.out
      rw [e9]
      clear e9
      go_wp2_with (go_at_call 6; refine (KW.out _ HB2).mono ?_; rintro e w8 ⟨rfl, hb8⟩)
      refine bodyPost_ret (by first | (simp [results, Tryz.results4, go_sem]; done) | (simp [results, Tryz.results4, go_sem]; rfl)) rfl ?_
      exact ⟨rfl, Below.chain HB2 hb8⟩
end Go.Proofs.YtmnbjkbkjmgmkaaGreatDoor
