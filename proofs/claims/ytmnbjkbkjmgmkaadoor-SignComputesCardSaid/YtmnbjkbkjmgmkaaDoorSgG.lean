/-
  sign: the reference's Refine.
-/
import Derived.Test.YtmnbjkbkjmgmkaaDoorSgF
set_option linter.unusedSimpArgs false
set_option linter.unusedVariables false
namespace Go.Proofs.YtmnbjkbkjmgmkaaDoor
open Go Go.Proofs Go.RowKit Go.Shelf

attribute [local go_sem] Oper.semAt_some

set_option maxHeartbeats 1000000 in
theorem refTrue_any (o2 : Nat) (a b : Int) (w : World) (h2 : 2 ≤ o2) (h6 : o2 < 6) : Calls Tryd.prog 37 #[.int .i64 (o2 : Int), .int .i64 a, .int .i64 b] w fun e w' => e = .returned (.bool (trueS (o2 - 2) a b)) ∧ w' = w := by
  rcases (show o2 = 2 ∨ o2 = 3 ∨ o2 = 4 ∨ o2 = 5 by omega) with rfl | rfl | rfl | rfl
  all_goals unfold trueS
  all_goals dsimp only [Nat.sub_self, Nat.reduceSub]
  all_goals clear h2 h6
  all_goals go_enter Tryd.func37, Tryd.ntmps37
  all_goals go_wp2
  all_goals refine bodyPost_ret (by first | (simp [results, Tryd.results37, go_sem]; done) | (simp [results, Tryd.results37, go_sem]; rfl)) rfl ?_
  all_goals exact ⟨rfl, rfl⟩
theorem rgRow_snoc (op s t : Nat) (a : Int) (p : Nat × Nat) (l : List Int) (b : Int) : rgRow op s t a p (l ++ [b]) = rgStep op s t a (rgRow op s t a p l) b := by simp [rgRow]
theorem rgL_snoc (op s t : Nat) (l : List Int) (a : Int) : rgL op s t (l ++ [a]) = rgRow op s t a (rgL op s t l) sevenI := by simp [rgL]
def Lt8 (p : Nat × Nat) : Prop := p.1 < 8 ∧ p.2 < 8
theorem rgStep_lt (op s t : Nat) (a : Int) (p : Nat × Nat) (b : Int) (h : Lt8 p) : Lt8 (rgStep op s t a p b) := by
  unfold rgStep
  split
  · exact ⟨or_lt8 h.1 (sgnS_lt _), or_lt8 h.2 (sgnS_lt _)⟩
  · exact h
theorem rgRow_lt (op s t : Nat) (a : Int) (p : Nat × Nat) (l : List Int) (h : Lt8 p) : Lt8 (rgRow op s t a p l) := by
  unfold rgRow
  induction l generalizing p with
  | nil => exact h
  | cons b l ih => exact ih _ (rgStep_lt _ _ _ _ _ _ h)
theorem rgL_lt (op s t : Nat) (l : List Int) : Lt8 (rgL op s t l) := by
  have : ∀ (l : List Int) (p : Nat × Nat), Lt8 p → Lt8 (l.foldl (fun r a => rgRow op s t a r sevenI) p) := by
    intro l
    induction l with
    | nil => exact fun _ h => h
    | cons a l ih => exact fun p h => ih _ (rgRow_lt _ _ _ _ _ _ h)
  exact this l (0, 0) ⟨by decide, by decide⟩

set_option maxRecDepth 100000 in
set_option maxHeartbeats 8000000 in
theorem refRefine_ok (o2 s t : Nat) (w : World) (h2 : 2 ≤ o2) (h6 : o2 < 6) (hs : s < 8) (ht : t < 8) : Calls Tryd.prog 34 #[.int .i64 (o2 : Int), .int .i64 (s : Int), .int .i64 (t : Int)] w fun e w' => e = .returned (.tuple #[.int .i64 ((rg (o2 - 2) s t).1 : Nat), .int .i64 ((rg (o2 - 2) s t).2 : Nat), .int .i64 0]) ∧ w' = w := by
  have C1 := fun W => refBoth_any (s : Int) (t : Int) W
  rw [errB_ok (okS_of hs) (okS_of ht)] at C1
  have K1 := Lib.hid C1; clear C1
  have KV := Lib.hid (fun a b W => refTrue_any o2 a b W h2 h6)
  have KS := Lib.hid (fun n W => refHas_any s hs n W)
  have KT := Lib.hid (fun n W => refHas_any t ht n W)
  have KG := Lib.hid (fun n W => refSgn_any n W)
  have t01 : decide ((o2 : Int) < 2) = false := decide_eq_false (by omega)
  have t02 : decide (5 < (o2 : Int)) = false := decide_eq_false (by omega)
  generalize hop : o2 - 2 = op at *
  go_enter Tryd.func34, Tryd.ntmps34
  go_wp2_with (go_at_call 48; refine (K1.out _).mono ?_; rintro e w1 ⟨rfl, rfl⟩)
  go_loopw [10, 11, 12] (fun x y p wr => wr = w1 ∧ ∃ k : Nat, k ≤ 7 ∧ p = .int .i64 (-3 + (k : Int)) ∧ x = .int .i64 ((rgL op s t (sevenI.take k)).1 : Nat) ∧ y = .int .i64 ((rgL op s t (sevenI.take k)).2 : Nat)) (fun _ _ p _ => (4 - intOf p).toNat)
  case atStart => exact ⟨rfl, 0, by omega, rfl, rfl, rfl⟩
  case round =>
    obtain ⟨rfl, k, hk, rfl, rfl, rfl⟩ := hrel
    by_cases hlt : k < 7
    · have htk := seven_take ⟨k, hlt⟩
      dsimp only at htk
      have hsn := rgL_snoc op s t (sevenI.take k) (-3 + (k : Int))
      rw [← htk] at hsn
      have hacc := rgL_lt op s t (sevenI.take k)
      generalize rgL op s t (sevenI.take k) = acc at *
      generalize ha : -3 + (k : Int) = a at *
      have a0 : -3 ≤ a := by omega
      have a1 : a ≤ 3 := by omega
      have hk2 : -3 + ((k + 1 : Nat) : Int) = a + 1 := by omega
      have HSN := Lib.hid hsn; have HTK := Lib.hid htk; have HA := Lib.hid ha; have HK2 := Lib.hid hk2; have HLT := Lib.hid hlt; clear hsn htk ha hk2 hlt hk
      have t1 : decide (a ≤ 3) = true := decide_eq_true a1
      go_wp2
      go_loopw [10, 11, 13] (fun x y p wr2 => wr2 = wr ∧ ∃ j : Nat, j ≤ 7 ∧ p = .int .i64 (-3 + (j : Int)) ∧ x = .int .i64 ((rgRow op s t a acc (sevenI.take j)).1 : Nat) ∧ y = .int .i64 ((rgRow op s t a acc (sevenI.take j)).2 : Nat)) (fun _ _ p _ => (4 - intOf p).toNat)
      case atStart => exact ⟨rfl, 0, by omega, rfl, rfl, rfl⟩
      case round =>
        obtain ⟨rfl, j, hj, rfl, rfl, rfl⟩ := hrel
        by_cases hjl : j < 7
        · have htk := seven_take ⟨j, hjl⟩
          dsimp only at htk
          have hsn := rgRow_snoc op s t a acc (sevenI.take j) (-3 + (j : Int))
          rw [← htk] at hsn
          have hac2 := rgRow_lt op s t a acc (sevenI.take j) hacc
          generalize rgRow op s t a acc (sevenI.take j) = ac2 at *
          generalize hb : -3 + (j : Int) = b at *
          have b0 : -3 ≤ b := by omega
          have b1 : b ≤ 3 := by omega
          have hj2 : -3 + ((j + 1 : Nat) : Int) = b + 1 := by omega
          have CV := fun W => KV.out a b W
          have CS := fun W => KS.out a W
          have CT := fun W => KT.out b W
          have CA := fun W => KG.out a W
          have CB := fun W => KG.out b W
          have hor1 := bOr hac2.1 (sgnS_lt a)
          have hor2 := bOr hac2.2 (sgnS_lt b)
          unfold rgStep at hsn
          have t2 : decide (b ≤ 3) = true := decide_eq_true b1
          generalize hasS s a = h1 at *
          generalize hasS t b = h2' at *
          generalize trueS op a b = h3 at *
          generalize sgnS a = ga at *
          generalize sgnS b = gb at *
          obtain ⟨x1, x2⟩ := ac2
          dsimp only at hsn hor1 hor2 ⊢
          have KCV := Lib.hid CV; have KCS := Lib.hid CS; have KCT := Lib.hid CT; have KCA := Lib.hid CA; have KCB := Lib.hid CB; have HJ := Lib.hid hjl; have HS := Lib.hid hsn
          clear CV CS CT CA CB hb htk hsn KV KS KT KG
          cases h1
          · go_wp2_with (first | (go_at_call 45; refine (KCS.out _).mono ?_; clear KCS; rintro e w1 ⟨rfl, rfl⟩) | (go_at_call 45; refine (KCT.out _).mono ?_; clear KCT; rintro e w1 ⟨rfl, rfl⟩) | (go_at_call 37; refine (KCV.out _).mono ?_; clear KCV; rintro e w1 ⟨rfl, rfl⟩) | (go_at_call 43; refine (KCA.out _).mono ?_; clear KCA; rintro e w1 ⟨rfl, rfl⟩) | (go_at_call 43; refine (KCB.out _).mono ?_; clear KCB; rintro e w1 ⟨rfl, rfl⟩))
            go_roundw
            case rel => exact ⟨by first | exact trivial | rfl, j + 1, by have := HJ.out; omega, by first | (rw [hj2]; done) | (rw [hj2]; go_num), by rw [HS.out]; rfl, by rw [HS.out]; rfl⟩
            case measure => simp [intOf]; omega
          · cases h2'
            · go_wp2_with (first | (go_at_call 45; refine (KCS.out _).mono ?_; clear KCS; rintro e w1 ⟨rfl, rfl⟩) | (go_at_call 45; refine (KCT.out _).mono ?_; clear KCT; rintro e w1 ⟨rfl, rfl⟩) | (go_at_call 37; refine (KCV.out _).mono ?_; clear KCV; rintro e w1 ⟨rfl, rfl⟩) | (go_at_call 43; refine (KCA.out _).mono ?_; clear KCA; rintro e w1 ⟨rfl, rfl⟩) | (go_at_call 43; refine (KCB.out _).mono ?_; clear KCB; rintro e w1 ⟨rfl, rfl⟩))
              go_roundw
              case rel => exact ⟨by first | exact trivial | rfl, j + 1, by have := HJ.out; omega, by first | (rw [hj2]; done) | (rw [hj2]; go_num), by rw [HS.out]; rfl, by rw [HS.out]; rfl⟩
              case measure => simp [intOf]; omega
            · cases h3
              · go_wp2_with (first | (go_at_call 45; refine (KCS.out _).mono ?_; clear KCS; rintro e w1 ⟨rfl, rfl⟩) | (go_at_call 45; refine (KCT.out _).mono ?_; clear KCT; rintro e w1 ⟨rfl, rfl⟩) | (go_at_call 37; refine (KCV.out _).mono ?_; clear KCV; rintro e w1 ⟨rfl, rfl⟩) | (go_at_call 43; refine (KCA.out _).mono ?_; clear KCA; rintro e w1 ⟨rfl, rfl⟩) | (go_at_call 43; refine (KCB.out _).mono ?_; clear KCB; rintro e w1 ⟨rfl, rfl⟩))
                go_roundw
                case rel => exact ⟨by first | exact trivial | rfl, j + 1, by have := HJ.out; omega, by first | (rw [hj2]; done) | (rw [hj2]; go_num), by rw [HS.out]; rfl, by rw [HS.out]; rfl⟩
                case measure => simp [intOf]; omega
              · go_wp2_with (first | (go_at_call 45; refine (KCS.out _).mono ?_; clear KCS; rintro e w1 ⟨rfl, rfl⟩) | (go_at_call 45; refine (KCT.out _).mono ?_; clear KCT; rintro e w1 ⟨rfl, rfl⟩) | (go_at_call 37; refine (KCV.out _).mono ?_; clear KCV; rintro e w1 ⟨rfl, rfl⟩) | (go_at_call 43; refine (KCA.out _).mono ?_; clear KCA; rintro e w1 ⟨rfl, rfl⟩) | (go_at_call 43; refine (KCB.out _).mono ?_; clear KCB; rintro e w1 ⟨rfl, rfl⟩))
                go_roundw
                case rel => exact ⟨by first | exact trivial | rfl, j + 1, by have := HJ.out; omega, by first | (rw [hj2]; done) | (rw [hj2]; go_num), by rw [HS.out]; rfl, by rw [HS.out]; rfl⟩
                case measure => simp [intOf]; omega
        · have hj7 : j = 7 := by omega
          subst hj7
          go_wp2
          go_roundw
          case rel => exact ⟨by first | exact trivial | rfl, k + 1, by have := HLT.out; omega, by first | (rw [HK2.out]; done) | (rw [HK2.out]; go_num), by rw [HSN.out]; rfl, by rw [HSN.out]; rfl⟩
          case measure => simp [intOf]; omega
    · have hk7 : k = 7 := by omega
      subst hk7
      go_wp2
      refine bodyPost_ret (by first | (simp [results, Tryd.results34, go_sem]; done) | (simp [results, Tryd.results34, go_sem]; rfl)) rfl ?_
      exact ⟨rfl, rfl⟩
end Go.Proofs.YtmnbjkbkjmgmkaaDoor
