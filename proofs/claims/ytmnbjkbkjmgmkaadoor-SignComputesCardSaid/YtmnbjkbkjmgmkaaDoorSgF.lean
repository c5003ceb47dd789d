/-
  sign: the reference's signs.
-/
import Derived.Test.YtmnbjkbkjmgmkaaDoorSgE
set_option linter.unusedSimpArgs false
set_option linter.unusedVariables false
namespace Go.Proofs.YtmnbjkbkjmgmkaaDoor
open Go Go.Proofs Go.RowKit Go.Shelf

attribute [local go_sem] Oper.semAt_some

theorem seven_take : ∀ k : Fin 7, sevenI.take (k.val + 1) = sevenI.take k.val ++ [(-3 + (k.val : Int))] := by decide
theorem sgRow_snoc (op s t : Nat) (a : Int) (acc : Nat) (l : List Int) (b : Int) : sgRow op s t a acc (l ++ [b]) = sgStep op s t a (sgRow op s t a acc l) b := by simp [sgRow]
theorem sgL_snoc (op s t : Nat) (l : List Int) (a : Int) : sgL op s t (l ++ [a]) = sgRow op s t a (sgL op s t l) sevenI := by simp [sgL]
theorem sgStep_lt (op s t : Nat) (a : Int) (r : Nat) (b : Int) (h : r < 8) : sgStep op s t a r b < 8 := by
  unfold sgStep
  split
  · exact h
  · split
    · exact or_lt8 h (sgnS_lt _)
    · exact h
theorem sgRow_lt (op s t : Nat) (a : Int) (acc : Nat) (l : List Int) (h : acc < 8) : sgRow op s t a acc l < 8 := by
  unfold sgRow
  induction l generalizing acc with
  | nil => exact h
  | cons b l ih => exact ih _ (sgStep_lt _ _ _ _ _ _ h)
theorem sgL_lt (op s t : Nat) (l : List Int) : sgL op s t l < 8 := by
  have : ∀ (l : List Int) (acc : Nat), acc < 8 → l.foldl (fun r a => sgRow op s t a r sevenI) acc < 8 := by
    intro l
    induction l with
    | nil => exact fun _ h => h
    | cons a l ih => exact fun acc h => ih _ (sgRow_lt _ _ _ _ _ _ h)
  exact this l 0 (by decide)

set_option maxRecDepth 100000 in
set_option maxHeartbeats 8000000 in
theorem signs_ok (op s t : Nat) (w : World) (ho : op < 5) (hs : s < 8) (ht : t < 8) : Calls Tryd.prog 50 #[.int .i64 (op : Int), .int .i64 (s : Int), .int .i64 (t : Int)] w fun e w' => e = .returned (.tuple #[.int .i64 (sg op s t : Nat), .int .i64 0]) ∧ w' = w := by
  have C1 := fun W => refBoth_any (s : Int) (t : Int) W
  rw [errB_ok (okS_of hs) (okS_of ht)] at C1
  have K1 := Lib.hid C1; clear C1
  have KV := Lib.hid (fun a b W a0 a1 b0 b1 => value_any op a b W ho a0 a1 b0 b1)
  have KS := Lib.hid (fun n W => refHas_any s hs n W)
  have KT := Lib.hid (fun n W => refHas_any t ht n W)
  have KG := Lib.hid (fun n W => refSgn_any n W)
  go_enter Tryd.func50, Tryd.ntmps50
  go_wp2_with (go_at_call 48; refine (K1.out _).mono ?_; rintro e w1 ⟨rfl, rfl⟩)
  go_loopw [9, 10] (fun x p wr => wr = w1 ∧ ∃ k : Nat, k ≤ 7 ∧ p = .int .i64 (-3 + (k : Int)) ∧ x = .int .i64 (sgL op s t (sevenI.take k) : Nat)) (fun _ p _ => (4 - intOf p).toNat)
  case atStart => exact ⟨rfl, 0, by omega, rfl, rfl⟩
  case round =>
    obtain ⟨rfl, k, hk, rfl, rfl⟩ := hrel
    by_cases hlt : k < 7
    · have htk := seven_take ⟨k, hlt⟩
      dsimp only at htk
      have hsn := sgL_snoc op s t (sevenI.take k) (-3 + (k : Int))
      rw [← htk] at hsn
      have hacc := sgL_lt op s t (sevenI.take k)
      generalize sgL op s t (sevenI.take k) = acc at *
      generalize ha : -3 + (k : Int) = a at *
      have a0 : -3 ≤ a := by omega
      have a1 : a ≤ 3 := by omega
      have hk2 : -3 + ((k + 1 : Nat) : Int) = a + 1 := by omega
      have HSN := Lib.hid hsn; have HTK := Lib.hid htk; have HA := Lib.hid ha; have HK2 := Lib.hid hk2; have HLT := Lib.hid hlt; clear hsn htk ha hk2 hlt hk
      have t1 : decide (a ≤ 3) = true := decide_eq_true a1
      go_wp2
      go_loopw [9, 11] (fun x p wr2 => wr2 = wr ∧ ∃ j : Nat, j ≤ 7 ∧ p = .int .i64 (-3 + (j : Int)) ∧ x = .int .i64 (sgRow op s t a acc (sevenI.take j) : Nat)) (fun _ p _ => (4 - intOf p).toNat)
      case atStart => exact ⟨rfl, 0, by omega, rfl, rfl⟩
      case round =>
        obtain ⟨rfl, j, hj, rfl, rfl⟩ := hrel
        by_cases hjl : j < 7
        · have htk := seven_take ⟨j, hjl⟩
          dsimp only at htk
          have hsn := sgRow_snoc op s t a acc (sevenI.take j) (-3 + (j : Int))
          rw [← htk] at hsn
          have hac2 := sgRow_lt op s t a acc (sevenI.take j) hacc
          generalize sgRow op s t a acc (sevenI.take j) = ac2 at *
          generalize hb : -3 + (j : Int) = b at *
          have b0 : -3 ≤ b := by omega
          have b1 : b ≤ 3 := by omega
          have hj2 : -3 + ((j + 1 : Nat) : Int) = b + 1 := by omega
          have CV := fun W => KV.out a b W a0 a1 b0 b1
          have CS := fun W => KS.out a W
          have CT := fun W => KT.out b W
          unfold valV at CV
          unfold sgStep at hsn
          have t2 : decide (b ≤ 3) = true := decide_eq_true b1
          cases hv : valS op a b with
          | none =>
            rw [hv] at CV hsn
            have KCV := Lib.hid CV; have HJ := Lib.hid hjl
            clear CV CS CT hv hb htk
            go_wp2_with (go_at_call 59; refine (KCV.out _).mono ?_; rintro e w1 ⟨rfl, rfl⟩)
            go_roundw
            case rel => exact ⟨by first | exact trivial | rfl, j + 1, by have := HJ.out; omega, by first | (rw [hj2]; done) | (rw [hj2]; go_num), by rw [hsn]⟩
            case measure => simp [intOf]; omega
          | some n =>
            rw [hv] at CV hsn
            dsimp only at hsn
            have CG := fun W => KG.out n W
            have hor := bOr hac2 (sgnS_lt n)
            generalize sgnS n = gn at *
            cases h1 : hasS s a with
            | false =>
              rw [h1] at CS hsn
              have KCV := Lib.hid CV; have KCS := Lib.hid CS; have HJ := Lib.hid hjl
              clear CV CS CT CG hv hb htk h1
              go_wp2_with (first | (go_at_call 59; refine (KCV.out _).mono ?_; clear KCV; rintro e w1 ⟨rfl, rfl⟩) | (go_at_call 45; refine (KCS.out _).mono ?_; clear KCS; rintro e w1 ⟨rfl, rfl⟩))
              go_roundw
              case rel => exact ⟨by first | exact trivial | rfl, j + 1, by have := HJ.out; omega, by first | (rw [hj2]; done) | (rw [hj2]; go_num), by rw [hsn]; rfl⟩
              case measure => simp [intOf]; omega
            | true =>
              rw [h1] at CS hsn
              cases h2 : hasS t b with
              | false =>
                rw [h2] at CT hsn
                have KCV := Lib.hid CV; have KCS := Lib.hid CS; have KCT := Lib.hid CT; have HJ := Lib.hid hjl
                clear CV CS CT CG hv hb htk h1 h2
                go_wp2_with (first | (go_at_call 59; refine (KCV.out _).mono ?_; clear KCV; rintro e w1 ⟨rfl, rfl⟩) | (go_at_call 45; refine (KCS.out _).mono ?_; clear KCS; rintro e w1 ⟨rfl, rfl⟩) | (go_at_call 45; refine (KCT.out _).mono ?_; clear KCT; rintro e w1 ⟨rfl, rfl⟩))
                go_roundw
                case rel => exact ⟨by first | exact trivial | rfl, j + 1, by have := HJ.out; omega, by first | (rw [hj2]; done) | (rw [hj2]; go_num), by rw [hsn]; rfl⟩
                case measure => simp [intOf]; omega
              | true =>
                rw [h2] at CT hsn
                have KCV := Lib.hid CV; have KCS := Lib.hid CS; have KCT := Lib.hid CT; have KCG := Lib.hid CG; have HJ := Lib.hid hjl
                clear CV CS CT CG hv hb htk h1 h2
                go_wp2_with (first | (go_at_call 59; refine (KCV.out _).mono ?_; clear KCV; rintro e w1 ⟨rfl, rfl⟩) | (go_at_call 45; refine (KCS.out _).mono ?_; clear KCS; rintro e w1 ⟨rfl, rfl⟩) | (go_at_call 45; refine (KCT.out _).mono ?_; clear KCT; rintro e w1 ⟨rfl, rfl⟩) | (go_at_call 43; refine (KCG.out _).mono ?_; clear KCG; rintro e w1 ⟨rfl, rfl⟩))
                go_roundw
                case rel => exact ⟨by first | exact trivial | rfl, j + 1, by have := HJ.out; omega, by first | (rw [hj2]; done) | (rw [hj2]; go_num), by rw [hsn]; rfl⟩
                case measure => simp [intOf]; omega
        · have hj7 : j = 7 := by omega
          subst hj7
          go_wp2
          go_roundw
          case rel => exact ⟨by first | exact trivial | rfl, k + 1, by have := HLT.out; omega, by first | (rw [HK2.out]; done) | (rw [HK2.out]; go_num), by rw [HSN.out]; rfl⟩
          case measure => simp [intOf]; omega
    · have hk7 : k = 7 := by omega
      subst hk7
      go_wp2
      refine bodyPost_ret (by first | (simp [results, Tryd.results50, go_sem]; done) | (simp [results, Tryd.results50, go_sem]; rfl)) rfl ?_
      exact ⟨rfl, rfl⟩
end Go.Proofs.YtmnbjkbkjmgmkaaDoor
