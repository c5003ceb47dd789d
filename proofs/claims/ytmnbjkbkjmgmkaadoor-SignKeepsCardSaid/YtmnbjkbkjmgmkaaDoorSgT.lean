/-
  sign: Of and Holds; the laws' right.
-/
import Derived.Test.YtmnbjkbkjmgmkaaDoorSgS
import Derived.Test.YtmnbjkbkjmgmkaaDoorSgH
set_option linter.unusedSimpArgs false
set_option linter.unusedVariables false
namespace Go.Proofs.YtmnbjkbkjmgmkaaDoor
open Go Go.Proofs Go.RowKit Go.Shelf

attribute [local go_sem] Oper.semAt_some

/-- What Of and Holds answer. -/
def ofR (a : ByteArray) : Int := if errOf (bytes a) = 0 then (sgnS (valZ (bytes a)) : Nat) else 0
def hdR (s : Int) (a : ByteArray) : Bool := okS s && decide (errOf (bytes a) = 0) && hasS s.toNat (valZ (bytes a))
def hdE (s : Int) (a : ByteArray) : Int := if okS s then (errOf (bytes a) : Nat) else 2
set_option maxHeartbeats 1000000 in
theorem sgOf_any (a : ByteArray) (w : World) (ha : a.size ≤ 9223372036854775807) : Calls Tryd.prog 11 #[.string a] w fun e w' => e = .returned (.tuple #[.int .i64 (ofR a), .int .i64 (errOf (bytes a) : Nat)]) ∧ w' = w := by
  rcases errOf_cases (bytes a) with he | he | he
  · have hs := str_of_err he
    have C1 := fun W => signS a _ W hs
    unfold ofR
    rw [he, if_pos rfl]
    generalize valZ (bytes a) = x at *
    unfold cmpI at C1
    unfold sgnS
    by_cases h0 : x < 0
    · simp only [if_pos h0] at C1 ⊢
      have K1 := Lib.hid C1; clear C1 he hs h0
      go_enter Tryd.func11, Tryd.ntmps11
      go_wp2_with (go_at_call 41; refine (K1.out _).mono ?_; rintro e w1 ⟨rfl, rfl⟩)
      refine bodyPost_ret (by first | (simp [results, Tryd.results11, go_sem]; done) | (simp [results, Tryd.results11, go_sem]; rfl)) rfl ?_
      exact ⟨rfl, rfl⟩
    · simp only [if_neg h0] at C1 ⊢
      by_cases h1 : x = 0
      · simp only [if_pos h1] at C1 ⊢
        have K1 := Lib.hid C1; clear C1 he hs h0 h1
        go_enter Tryd.func11, Tryd.ntmps11
        go_wp2_with (go_at_call 41; refine (K1.out _).mono ?_; rintro e w1 ⟨rfl, rfl⟩)
        refine bodyPost_ret (by first | (simp [results, Tryd.results11, go_sem]; done) | (simp [results, Tryd.results11, go_sem]; rfl)) rfl ?_
        exact ⟨rfl, rfl⟩
      · simp only [if_neg h1] at C1 ⊢
        have K1 := Lib.hid C1; clear C1 he hs h0 h1
        go_enter Tryd.func11, Tryd.ntmps11
        go_wp2_with (go_at_call 41; refine (K1.out _).mono ?_; rintro e w1 ⟨rfl, rfl⟩)
        refine bodyPost_ret (by first | (simp [results, Tryd.results11, go_sem]; done) | (simp [results, Tryd.results11, go_sem]; rfl)) rfl ?_
        exact ⟨rfl, rfl⟩
  all_goals
    have C1 := fun W => sign_any a W ha
    have hb : errBoth (bytes a) [48] = errOf (bytes a) := by unfold errBoth; rw [if_neg (by rw [he]; decide)]
    unfold cmpR at C1
    rw [hb, he] at C1
    unfold ofR
    rw [he]
    have K1 := Lib.hid C1; clear C1 he hb
    go_enter Tryd.func11, Tryd.ntmps11
    go_wp2_with (go_at_call 41; refine (K1.out _).mono ?_; rintro e w1 ⟨rfl, rfl⟩)
    refine bodyPost_ret (by first | (simp [results, Tryd.results11, go_sem]; done) | (simp [results, Tryd.results11, go_sem]; rfl)) rfl ?_
    exact ⟨rfl, rfl⟩
set_option maxHeartbeats 1000000 in
theorem sgHolds_any (s : Int) (a : ByteArray) (w : World) (ha : a.size ≤ 9223372036854775807) : Calls Tryd.prog 13 #[.int .i64 s, .string a] w fun e w' => e = .returned (.tuple #[.bool (hdR s a), .int .i64 (hdE s a)]) ∧ w' = w := by
  have C1 := fun W => sgCheck_any s W
  have C2 := fun W => sgOf_any a W ha
  cases h : okS s with
  | false =>
    have e : errS s = 2 := by unfold errS; rw [h]; rfl
    rw [e] at C1
    rw [show hdR s a = false by unfold hdR; rw [h]; rfl, show hdE s a = 2 by unfold hdE; rw [h]; rfl]
    have K1 := Lib.hid C1; clear C1 C2 h e
    go_enter Tryd.func13, Tryd.ntmps13
    go_wp2_with (go_at_call 19; refine (K1.out _).mono ?_; rintro e w1 ⟨rfl, rfl⟩)
    refine bodyPost_ret (by first | (simp [results, Tryd.results13, go_sem]; done) | (simp [results, Tryd.results13, go_sem]; rfl)) rfl ?_
    exact ⟨rfl, rfl⟩
  | true =>
    obtain ⟨m, rfl, hm⟩ := okS_nat h
    rw [errS_ok h] at C1
    rw [show hdE (m : Int) a = (errOf (bytes a) : Nat) by unfold hdE; rw [if_pos h]]
    by_cases he : errOf (bytes a) = 0
    · rw [show ofR a = (sgnS (valZ (bytes a)) : Nat) by unfold ofR; rw [if_pos he]] at C2
      rw [show hdR (m : Int) a = hasS m (valZ (bytes a)) by unfold hdR; rw [h, he]; rfl]
      have hb := bAnd hm (sgnS_lt (valZ (bytes a)))
      have hl : hasS m (valZ (bytes a)) = (((m &&& sgnS (valZ (bytes a)) : Nat) : Int) != 0) := by
        unfold hasS
        cases h : (m &&& sgnS (valZ (bytes a))) with
        | zero => rfl
        | succ k => rw [show ((k + 1 : Nat) != 0) = true from by rw [bne_iff_ne]; omega, eq_comm, bne_iff_ne]; omega
      rw [hl]
      generalize sgnS (valZ (bytes a)) = g at *
      clear hl
      generalize m &&& g = r at *
      generalize errOf (bytes a) = e at *
      have K1 := Lib.hid C1; have K2 := Lib.hid C2; clear C1 C2 h he
      go_enter Tryd.func13, Tryd.ntmps13
      go_wp2_with (first | (go_at_call 19; refine (K1.out _).mono ?_; rintro e w1 ⟨rfl, rfl⟩) | (go_at_call 11; refine (K2.out _).mono ?_; rintro e w1 ⟨rfl, rfl⟩))
      refine bodyPost_ret (by first | (simp [results, Tryd.results13, go_sem]; done) | (simp [results, Tryd.results13, go_sem]; rfl)) rfl ?_
      exact ⟨rfl, rfl⟩
    · rw [show ofR a = 0 by unfold ofR; rw [if_neg he]] at C2
      rw [show hdR (m : Int) a = false by unfold hdR; rw [h, decide_eq_false he]; rfl]
      have hb : bits .and .i64 (m : Int) 0 = 0 := by
        have := bAnd hm (show 0 < 8 by decide)
        rw [Nat.and_zero] at this
        exact this
      generalize errOf (bytes a) = e at *
      have K1 := Lib.hid C1; have K2 := Lib.hid C2; clear C1 C2 h he
      go_enter Tryd.func13, Tryd.ntmps13
      go_wp2_with (first | (go_at_call 19; refine (K1.out _).mono ?_; rintro e w1 ⟨rfl, rfl⟩) | (go_at_call 11; refine (K2.out _).mono ?_; rintro e w1 ⟨rfl, rfl⟩))
      refine bodyPost_ret (by first | (simp [results, Tryd.results13, go_sem]; done) | (simp [results, Tryd.results13, go_sem]; rfl)) rfl ?_
      exact ⟨rfl, rfl⟩
set_option maxHeartbeats 1000000 in
theorem refOf19_any (a : ByteArray) (w : World) (ha : a.size ≤ 9223372036854775807) : Calls Tryd.prog 12 #[.string a] w fun e w' => e = .returned (.tuple #[.int .i64 (ofR a), .int .i64 (errOf (bytes a) : Nat)]) ∧ w' = w := by
  have C1 := fun W => refCheck_any a W ha
  rcases errOf_cases (bytes a) with he | he | he
  · have hs := str_of_err he
    have C2 := fun W => refSign_any a _ W hs
    have C3 := fun W => refSgn_any (cmpI (valZ (bytes a)) 0) W
    have hg : sgnS (cmpI (valZ (bytes a)) 0) = sgnS (valZ (bytes a)) := by
      unfold sgnS cmpI
      by_cases h0 : valZ (bytes a) < 0
      · simp [h0]
      · by_cases h1 : valZ (bytes a) = 0
        · simp [h1]
        · simp [h0, h1]
    rw [hg] at C3
    unfold ofR
    rw [he] at C1 ⊢
    rw [if_pos rfl]
    generalize sgnS (valZ (bytes a)) = g at *
    generalize cmpI (valZ (bytes a)) 0 = c at *
    have K1 := Lib.hid C1; have K2 := Lib.hid C2; have K3 := Lib.hid C3; clear C1 C2 C3 he hs hg
    go_enter Tryd.func12, Tryd.ntmps12
    go_wp2_with (first | (go_at_call 42; refine (K1.out _).mono ?_; rintro e w1 ⟨rfl, rfl⟩) | (go_at_call 44; refine (K2.out _).mono ?_; rintro e w1 ⟨rfl, rfl⟩) | (go_at_call 43; refine (K3.out _).mono ?_; rintro e w1 ⟨rfl, rfl⟩))
    refine bodyPost_ret (by first | (simp [results, Tryd.results12, go_sem]; done) | (simp [results, Tryd.results12, go_sem]; rfl)) rfl ?_
    exact ⟨rfl, rfl⟩
  all_goals
    unfold ofR
    rw [he] at C1 ⊢
    have K1 := Lib.hid C1; clear C1 he
    go_enter Tryd.func12, Tryd.ntmps12
    go_wp2_with (go_at_call 42; refine (K1.out _).mono ?_; rintro e w1 ⟨rfl, rfl⟩)
    refine bodyPost_ret (by first | (simp [results, Tryd.results12, go_sem]; done) | (simp [results, Tryd.results12, go_sem]; rfl)) rfl ?_
    exact ⟨rfl, rfl⟩
set_option maxHeartbeats 1000000 in
theorem refHolds19_any (s : Int) (a : ByteArray) (w : World) (ha : a.size ≤ 9223372036854775807) : Calls Tryd.prog 14 #[.int .i64 s, .string a] w fun e w' => e = .returned (.tuple #[.bool (hdR s a), .int .i64 (hdE s a)]) ∧ w' = w := by
  have C1 := fun W => refCheck19_any s W
  have C2 := fun W => refCheck_any a W ha
  cases h : okS s with
  | false =>
    have e : errS s = 2 := by unfold errS; rw [h]; rfl
    rw [e] at C1
    rw [show hdR s a = false by unfold hdR; rw [h]; rfl, show hdE s a = 2 by unfold hdE; rw [h]; rfl]
    have K1 := Lib.hid C1; clear C1 C2 h e
    go_enter Tryd.func14, Tryd.ntmps14
    go_wp2_with (go_at_call 20; refine (K1.out _).mono ?_; rintro e w1 ⟨rfl, rfl⟩)
    refine bodyPost_ret (by first | (simp [results, Tryd.results14, go_sem]; done) | (simp [results, Tryd.results14, go_sem]; rfl)) rfl ?_
    exact ⟨rfl, rfl⟩
  | true =>
    obtain ⟨m, rfl, hm⟩ := okS_nat h
    rw [errS_ok h] at C1
    rw [show hdE (m : Int) a = (errOf (bytes a) : Nat) by unfold hdE; rw [if_pos h]]
    rcases errOf_cases (bytes a) with he | he | he
    · have hs := str_of_err he
      have C3 := fun W => refSign_any a _ W hs
      have C4 := fun W => refHas_any m hm (cmpI (valZ (bytes a)) 0) W
      have hg : hasS m (cmpI (valZ (bytes a)) 0) = hasS m (valZ (bytes a)) := by
        unfold hasS sgnS cmpI
        by_cases h0 : valZ (bytes a) < 0
        · simp [h0]
        · by_cases h1 : valZ (bytes a) = 0
          · simp [h1]
          · simp [h0, h1]
      rw [hg] at C4
      rw [show hdR (m : Int) a = hasS m (valZ (bytes a)) by unfold hdR; rw [h, he]; rfl]
      rw [he] at C2 ⊢
      generalize hasS m (valZ (bytes a)) = r at *
      generalize cmpI (valZ (bytes a)) 0 = c at *
      have K1 := Lib.hid C1; have K2 := Lib.hid C2; have K3 := Lib.hid C3; have K4 := Lib.hid C4; clear C1 C2 C3 C4 h he hs hg
      go_enter Tryd.func14, Tryd.ntmps14
      go_wp2_with (first | (go_at_call 20; refine (K1.out _).mono ?_; rintro e w1 ⟨rfl, rfl⟩) | (go_at_call 42; refine (K2.out _).mono ?_; rintro e w1 ⟨rfl, rfl⟩) | (go_at_call 44; refine (K3.out _).mono ?_; rintro e w1 ⟨rfl, rfl⟩) | (go_at_call 45; refine (K4.out _).mono ?_; rintro e w1 ⟨rfl, rfl⟩))
      refine bodyPost_ret (by first | (simp [results, Tryd.results14, go_sem]; done) | (simp [results, Tryd.results14, go_sem]; rfl)) rfl ?_
      exact ⟨rfl, rfl⟩
    all_goals
      rw [show hdR (m : Int) a = false by unfold hdR; rw [h, he]; rfl]
      rw [he] at C2 ⊢
      have K1 := Lib.hid C1; have K2 := Lib.hid C2; clear C1 C2 h he
      go_enter Tryd.func14, Tryd.ntmps14
      go_wp2_with (first | (go_at_call 20; refine (K1.out _).mono ?_; rintro e w1 ⟨rfl, rfl⟩) | (go_at_call 42; refine (K2.out _).mono ?_; rintro e w1 ⟨rfl, rfl⟩))
      refine bodyPost_ret (by first | (simp [results, Tryd.results14, go_sem]; done) | (simp [results, Tryd.results14, go_sem]; rfl)) rfl ?_
      exact ⟨rfl, rfl⟩
/-- What the laws' right asks of a string. -/
def rgtB (a : ByteArray) : Bool := decide (a.size ≤ 250) && decide (errOf (bytes a) = 0)
set_option maxHeartbeats 2000000 in
theorem right19_two (a b : ByteArray) (B c : Nat) (w : World) (ha : a.size ≤ 9223372036854775807) (hb : b.size ≤ 9223372036854775807)
    (c0 : w.cell? ⟨B, 0, none⟩ = some (.string a)) (c1 : w.cell? ⟨B, 1, none⟩ = some (.string b)) :
    Calls Tryd.prog 35 #[.slice (some ⟨B, 0, none⟩) 2 c] w fun e w' => e = .returned (.bool (rgtB a && rgtB b)) ∧ w' = w := by
  have CA := refFew_any a w ha; have CB := refFew_any b w hb
  have DA := refCheck_any a w ha; have DB := refCheck_any b w hb
  unfold rgtB
  obtain ⟨ea, hea⟩ : ∃ e, e = errOf (bytes a) := ⟨_, rfl⟩
  obtain ⟨eb, heb⟩ : ∃ e, e = errOf (bytes b) := ⟨_, rfl⟩
  rw [← hea] at DA ⊢
  rw [← heb] at DB ⊢
  generalize hfa : decide (a.size ≤ 250) = fa at *
  generalize hfb : decide (b.size ≤ 250) = fb at *
  have K1 := Lib.hid CA; have K2 := Lib.hid CB; have K3 := Lib.hid DA; have K4 := Lib.hid DB
  clear CA CB DA DB hfa hfb ha hb hea heb
  go_enter Tryd.func35, Tryd.ntmps35
  go_wp2_with fail
  go_loop [7] (fun iv => ∃ k : Nat, k ≤ 2 ∧ iv = .int .i64 k ∧ (1 ≤ k → (fa && decide (ea = 0)) = true) ∧ (2 ≤ k → (fb && decide (eb = 0)) = true)) (fun iv => 2 - (intOf iv).toNat)
  case atStart => exact ⟨0, Nat.zero_le _, rfl, fun h => by omega, fun h => by omega⟩
  case round =>
    obtain ⟨k, hk, rfl, h1, h2⟩ := hrel
    rcases (show k = 0 ∨ k = 1 ∨ k = 2 by omega) with rfl | rfl | rfl
    · have H1 := Lib.hid h1; have H2 := Lib.hid h2; clear h1 h2
      cases fa with
      | false =>
        go_wp2_with (go_at_call 9; refine K1.out.mono ?_; rintro e w1 ⟨rfl, h⟩; subst h)
        refine bodyPost_ret (by first | (simp [results, Tryd.results35, go_sem]; done) | (simp [results, Tryd.results35, go_sem]; rfl)) rfl ?_
        exact ⟨by simp, rfl⟩
      | true =>
        by_cases he : ea = 0
        · subst he
          go_wp2_with (first | (go_at_call 9; refine K1.out.mono ?_; clear K1; rintro e w1 ⟨rfl, h⟩; subst h) | (go_at_call 42; refine K3.out.mono ?_; clear K3; rintro e w1 ⟨rfl, h⟩; subst h))
          go_round
          case rel => exact ⟨1, by omega, rfl, fun _ => rfl, fun h => by omega⟩
          case measure => simp [intOf]
        · have t1 : ((ea : Int) != 0) = true := by rw [bne_iff_ne]; omega
          go_wp2_with (first | (go_at_call 9; refine K1.out.mono ?_; clear K1; rintro e w1 ⟨rfl, h⟩; subst h) | (go_at_call 42; refine K3.out.mono ?_; clear K3; rintro e w1 ⟨rfl, h⟩; subst h))
          refine bodyPost_ret (by first | (simp [results, Tryd.results35, go_sem]; done) | (simp [results, Tryd.results35, go_sem]; rfl)) rfl ?_
          exact ⟨by simp [he], rfl⟩
    · have H1 := Lib.hid h1; have H2 := Lib.hid h2; clear h1 h2
      have e1 := H1.out (by omega)
      cases fb with
      | false =>
        rw [e1]
        clear e1
        go_wp2_with (go_at_call 9; refine K2.out.mono ?_; rintro e w1 ⟨rfl, h⟩; subst h)
        refine bodyPost_ret (by first | (simp [results, Tryd.results35, go_sem]; done) | (simp [results, Tryd.results35, go_sem]; rfl)) rfl ?_
        exact ⟨by simp, rfl⟩
      | true =>
        by_cases he : eb = 0
        · subst he
          clear e1
          go_wp2_with (first | (go_at_call 9; refine K2.out.mono ?_; clear K2; rintro e w1 ⟨rfl, h⟩; subst h) | (go_at_call 42; refine K4.out.mono ?_; clear K4; rintro e w1 ⟨rfl, h⟩; subst h))
          go_round
          case rel => exact ⟨2, by omega, rfl, fun _ => H1.out (by omega), fun _ => rfl⟩
          case measure => simp [intOf]
        · have t1 : ((eb : Int) != 0) = true := by rw [bne_iff_ne]; omega
          clear e1
          go_wp2_with (first | (go_at_call 9; refine K2.out.mono ?_; clear K2; rintro e w1 ⟨rfl, h⟩; subst h) | (go_at_call 42; refine K4.out.mono ?_; clear K4; rintro e w1 ⟨rfl, h⟩; subst h))
          refine bodyPost_ret (by first | (simp [results, Tryd.results35, go_sem]; done) | (simp [results, Tryd.results35, go_sem]; rfl)) rfl ?_
          exact ⟨by simp [he], rfl⟩
    · have g1 := h1 (by omega); have g2 := h2 (by omega)
      have G1 := Lib.hid g1; have G2 := Lib.hid g2
      clear h1 h2 g1 g2
      go_wp2
      refine bodyPost_ret (by first | (simp [results, Tryd.results35, go_sem]; done) | (simp [results, Tryd.results35, go_sem]; rfl)) rfl ?_
      exact ⟨by rw [G1.out, G2.out]; rfl, rfl⟩
end Go.Proofs.YtmnbjkbkjmgmkaaDoor
