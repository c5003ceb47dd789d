import Derived.Test.YtdibcllakkjegaaGreatDoorCut32
import Derived.Test.YtdibcllakkjegaaGreatDoorPa1
import Derived.Test.YtdibcllakkjegaaGreatDoorCut29
import Derived.Test.YtdibcllakkjegaaGreatDoorCut30
import Derived.Lib.QuietBelow

set_option linter.unusedVariables false
/-
  parser: mathematics of the laws ParserSpaces, ParserJoins, ParserParens, ParserHolds.
-/
set_option linter.unusedSimpArgs false
set_option linter.unusedVariables false
namespace Go.Proofs.YtdibcllakkjegaaGreatDoor
open Go Go.Proofs Go.RowKit

theorem nt_split {V : List Tk} {e : Int} {s : ByteArray} (h : (scR s).1 = V ++ [tE e]) : (scR s).1.map nt = V.map nt ++ [(3, [])] := by rw [h, List.map_append]; rfl
/-- An entry reads a text whose tokens are those of a list, up to offsets. -/
theorem pAns_list {k : Nat} {s : ByteArray} {L : List Tk} {x : Syn} (hz : s.size ≤ 65536) (hB : B (bytes s) = some (L.map nt)) (h : pTk k L = .ok x) : ∃ y, pAns k s = .ok y ∧ bareS x = bareS y := by
  obtain ⟨h1, h2⟩ := scR_B hz hB
  obtain ⟨y, e1, e2⟩ := pTk_sim (sim_of h2.symm) h
  exact ⟨y, by rw [pAns_tk h1, e1], e2⟩
theorem pAns_deep {k : Nat} {s : ByteArray} {L : List Tk} {f : Nat} {a : Int} (hz : s.size ≤ 65536) (hB : B (bytes s) = some (L.map nt)) (h : pRead f (entW k L) 0 L = .error (a, 12)) : ∃ b, pAns k s = .error (b, 12) := by
  obtain ⟨h1, h2⟩ := scR_B hz hB
  have e : pTk k L = .error (a, 12) := by unfold pTk; rw [pLim_of h (fun q => by cases q)]; rfl
  obtain ⟨b, hb⟩ := pTk_sim_err (c := 12) (by decide) (sim_of h2.symm) e ⟨f, _, h, rfl⟩
  exact ⟨b, by rw [pAns_tk h1, hb]⟩
abbrev tS (l : List UInt8) : Tk := ⟨2, str l, 0⟩
theorem nt_S (l : List UInt8) : nt (tS l) = (2, l) := by show (2, bytes (str l)) = _; rw [bytes_str]
theorem blank1 (z : List UInt8) : skM false ([32] ++ z) = ([32] : List UInt8).length + skM false z := by
  show skM false (32 :: z) = 1 + _
  rw [skF, if_pos (by decide)]
theorem B_sp1 (z : List UInt8) : B (32 :: z) = B z := B_gap (g := [32]) blank1 z
theorem ok_of {x : List UInt8} (h : (decide (x ≠ []) && (decide (ter x = 0) && decide (tn x = x.length))) = true) : okX x := by
  simp only [Bool.and_eq_true, decide_eq_true_eq] at h
  exact h
theorem B_40 (m : List UInt8) : B (40 :: m) = (B m).map ((2, [40]) :: ·) := B_one (ok_of (by decide +kernel)) (by decide +kernel) (by decide +kernel) (by decide +kernel) m
theorem B_41 (m : List UInt8) : B (41 :: m) = (B m).map ((2, [41]) :: ·) := B_one (ok_of (by decide +kernel)) (by decide +kernel) (by decide +kernel) (by decide +kernel) m
theorem B_scan {s : ByteArray} {V : List Tk} {e : Int} (h : (scR s).2.2 = 0) (hV : (scR s).1 = V ++ [tE e]) : B (bytes s) = some (V.map nt ++ [(3, [])]) := by rw [B_scR h, nt_split hV]
theorem inr_of {m : Nat} {t : Tk} (l : List UInt8) (ht : bytes t.t = l) (h : ∀ i, m ≤ i → (pOps i).contains l = false) (h46 : (l == [46]) = false) : Inr m t := ⟨fun i hi => by rw [ht]; exact h i hi, by rw [ht]; exact h46⟩
theorem ops_low {l : List UInt8} (h : ∀ i, i < 7 → (pOps i).contains l = false) : ∀ i, 0 ≤ i → (pOps i).contains l = false := fun i _ => by
  by_cases hi : i < 7
  · exact h i hi
  · unfold pOps
    split <;> first | omega | rfl
theorem ops_4 {l : List UInt8} (h4 : (pOps 4).contains l = false) (h5 : (pOps 5).contains l = false) (h6 : (pOps 6).contains l = false) : ∀ i, 4 ≤ i → (pOps i).contains l = false := fun i hi => by
  by_cases h : i < 7
  · rcases (show i = 4 ∨ i = 5 ∨ i = 6 by omega) with rfl | rfl | rfl
    · exact h4
    · exact h5
    · exact h6
  · unfold pOps
    split <;> first | omega | rfl
theorem inr_sign {l : List UInt8} (h : ∀ i, i < 7 → (pOps i).contains l = false) (h46 : (l == [46]) = false) (m : Nat) (k a : Int) : Inr m ⟨k, str l, a⟩ := inr_of l (bytes_str l) (fun i _ => ops_low h i (Nat.zero_le _)) h46
theorem low7 {P : Nat → Prop} (h0 : P 0) (h1 : P 1) (h2 : P 2) (h3 : P 3) (h4 : P 4) (h5 : P 5) (h6 : P 6) : ∀ i, i < 7 → P i := fun i hi => by
  rcases (show i = 0 ∨ i = 1 ∨ i = 2 ∨ i = 3 ∨ i = 4 ∨ i = 5 ∨ i = 6 by omega) with rfl | rfl | rfl | rfl | rfl | rfl | rfl <;> assumption
theorem inr41 (m : Nat) : Inr m (tS [41]) := inr_sign (low7 rfl rfl rfl rfl rfl rfl rfl) rfl m 2 0
theorem inrE (m : Nat) (a : Int) : Inr m (tE a) := inr_sign (l := []) (low7 rfl rfl rfl rfl rfl rfl rfl) rfl m 3 a
theorem op41 (i : Nat) (r : List Tk) : pOp i (tS [41] :: r) = false := (inr41 0).op (S' := tS [41] :: r) (Nat.zero_le i)
theorem num_not {V : List Tk} {e : Int} (hok : ∀ t ∈ V, okX (bytes t.t) ∧ t.k = tkd (bytes t.t)) : (pHd (V ++ [tE e])).k = 1 → bytes (pHd (V ++ [tE e])).t ≠ [110, 111, 116] := by
  cases V with
  | nil => intro h; cases h
  | cons v V =>
    intro h q
    have h2 := (hok v (by simp)).2
    have h' : v.k = 1 := h
    have q' : bytes v.t = [110, 111, 116] := q
    rw [q', h'] at h2
    revert h2
    decide +kernel
/-- The signs of comparisons. -/
def cmpL : List (List UInt8) := [[61], [60, 61], [60], [33, 61], [62], [62, 61]]
theorem cmp_facts : ∀ o ∈ cmpL, okX o ∧ tkd o = 2 ∧ (pOps 3).contains o = true ∧ ((pOps 4).contains o = false ∧ (pOps 5).contains o = false ∧ (pOps 6).contains o = false ∧ (o == [46]) = false) := by
  intro o ho
  simp only [cmpL, List.mem_cons, List.not_mem_nil, or_false] at ho
  rcases ho with rfl | rfl | rfl | rfl | rfl | rfl <;> exact ⟨ok_of (by decide +kernel), by decide +kernel, by decide +kernel, by decide +kernel, by decide +kernel, by decide +kernel, by decide +kernel⟩
/-- An expression in parentheses, read at some level. -/
theorem par4 {f d : Nat} {V : List Tk} {e : Int} {xs : List Syn} {S : List Tk} (hok : ∀ t ∈ V, okX (bytes t.t) ∧ t.k = tkd (bytes t.t)) (h : pRead f (.lvl 4) (d + 1) (V ++ [tE e]) = .ok (xs, [tE e])) (h64 : d ≠ 64) (hS : S ≠ []) (hI : Inr 4 (pHd S)) :
    ∃ g, pRead g (.lvl 6) d (tS [40] :: (V ++ tS [41] :: S)) = .ok (xs, S) := by
  have hn := no_not f 4 (d + 1) _ _ (num_not hok) (by omega) h
  have h1 := lvl_in (S' := tS [41] :: S) (Nat.le_refl 4) (by simp) (inr41 4) h
  have hn' : pOp 2 (V ++ tS [41] :: S) = false := by
    cases V with
    | nil => exact op41 2 S
    | cons v V => exact hn
  have h2 := up3 (up4 h1 (op41 3 S)) hn' (op41 1 S) (op41 0 S)
  have h3 := par7 (t := tS [40]) (by show bytes (str [40]) = _; rw [bytes_str]) (by decide) (by simp) h64 h2 (by show (bytes (str [41]) == [41]) = true; rw [bytes_str]; rfl)
  have ht : pTl (tS [41] :: S) = S := by obtain ⟨u, S, rfl⟩ := List.exists_cons_of_ne_nil hS; rfl
  rw [ht] at h3
  exact ⟨_, up7 h3 (by show ([[45]] : List (List UInt8)).contains (bytes (str [40])) = false; rw [bytes_str]; rfl)⟩
/-- ParserParens. -/
theorem parens_math {a b o : ByteArray} {x y : Syn} (ho : bytes o ∈ cmpL) (hz : a.size + b.size ≤ 600) (ha : pAns 3 a = .ok x) (hb : pAns 3 b = .ok y) :
    ∃ p at', pAns 2 (a ++ (⟨#[10]⟩ : ByteArray) ++ o ++ (⟨#[32]⟩ : ByteArray) ++ b) = .ok (.mk 22 at' o 0 p) ∧ (∃ p1 p2, p = [p1, p2] ∧ bareS p1 = bareS x ∧ bareS p2 = bareS y) ∧
      ((∃ c, pAns 2 ((⟨#[40, 40]⟩ : ByteArray) ++ a ++ (⟨#[10, 41, 32]⟩ : ByteArray) ++ o ++ (⟨#[32, 40]⟩ : ByteArray) ++ b ++ (⟨#[10, 41, 41]⟩ : ByteArray)) = .error (c, 12)) ∨
        ∃ q, pAns 2 ((⟨#[40, 40]⟩ : ByteArray) ++ a ++ (⟨#[10, 41, 32]⟩ : ByteArray) ++ o ++ (⟨#[32, 40]⟩ : ByteArray) ++ b ++ (⟨#[10, 41, 41]⟩ : ByteArray)) = .ok q ∧ bareS (.mk 22 at' o 0 p) = bareS q) := by
  obtain ⟨a0, V, e, f, xs, hV, hokV, h1, hx, -⟩ := pAns_ok ha
  obtain ⟨b0, U, e2, f2, ys, hU, hokU, g1, hy, -⟩ := pAns_ok hb
  obtain ⟨x', rfl⟩ := (one_read f).1 _ _ _ _ _ h1
  obtain ⟨y', rfl⟩ := (one_read f2).1 _ _ _ _ _ g1
  obtain rfl : x = x' := hx
  obtain rfl : y = y' := hy
  have h1 : pRead f (.lvl 4) 0 (V ++ [tE e]) = .ok ([x], [tE e]) := h1
  have g1 : pRead f2 (.lvl 4) 0 (U ++ [tE e2]) = .ok ([y], [tE e2]) := g1
  obtain ⟨o1, o2, o3, o4, o5, o6, o7⟩ := cmp_facts _ ho
  have hzo : o.size ≤ 2 := by
    have : (bytes o).length ≤ 2 := by
      simp only [cmpL, List.mem_cons, List.not_mem_nil, or_false] at ho
      rcases ho with h | h | h | h | h | h <;> rw [h] <;> simp
    rwa [bytes_length] at this
  obtain ⟨tO, htO⟩ : ∃ t : Tk, t = ⟨2, o, 0⟩ := ⟨_, rfl⟩
  have hbO : bytes tO.t = bytes o := by rw [htO]
  have hIO : Inr 4 tO := inr_of (bytes o) hbO (ops_4 o4 o5 o6) o7
  have hnt : nt tO = (2, bytes o) := by rw [htO]
  have hBa := B_scan a0 hV
  have hBb := B_scan b0 hU
  have hop3 : ∀ r, pOp 3 (tO :: r) = true := fun r => by show (pOps 3).contains (bytes tO.t) = true; rw [hbO]; exact o3
  have hlow : ∀ r, pOp 4 (tO :: r) = false ∧ pOp 5 (tO :: r) = false ∧ pOp 6 (tO :: r) = false := fun r => ⟨hIO.op (S' := tO :: r) (by omega), hIO.op (S' := tO :: r) (by omega), hIO.op (S' := tO :: r) (by omega)⟩
  have hnV := no_not f 4 0 _ _ (num_not hokV) (by omega) h1
  -- the plain one
  have p1 := lvl_in (S' := tO :: (U ++ [tE 0])) (Nat.le_refl 4) (by simp) hIO h1
  have p2 := lvl_in (S' := [tE 0]) (Nat.le_refl 4) (by simp) (inrE 4 0) g1
  have hN : ∀ {r}, pTl (tO :: (U ++ r :: [])) = U ++ r :: [] := fun {r} => by cases U <;> rfl
  have p3 := cmp3 (f := max f f2) (read_up p1 (by omega)) (hop3 _) (by rw [hN]; exact read_up p2 (by omega))
  have hnV' : ∀ S, pOp 2 (V ++ tO :: S) = false := fun S => by
    cases V with
    | nil => exact absurd h1 (lvl_end _ _ _ _ _)
    | cons v V => exact hnV
  have p4 := up3 p3 (hnV' _) (op_end _ _) (op_end _ _)
  have hzP : (a ++ (⟨#[10]⟩ : ByteArray) ++ o ++ (⟨#[32]⟩ : ByteArray) ++ b).size ≤ 65536 := by
    rw [← bytes_length]
    simp only [bytes_app, List.length_append, bytes_length]
    show a.size + 1 + o.size + 1 + b.size ≤ 65536
    omega
  have hBP : B (bytes (a ++ (⟨#[10]⟩ : ByteArray) ++ o ++ (⟨#[32]⟩ : ByteArray) ++ b)) = some ((V ++ tO :: (U ++ [tE 0])).map nt) := by
    have e1 : bytes (a ++ (⟨#[10]⟩ : ByteArray) ++ o ++ (⟨#[32]⟩ : ByteArray) ++ b) = bytes a ++ 10 :: (bytes o ++ 32 :: bytes b) := by
      simp only [bytes_app, List.append_assoc]; rfl
    rw [e1, B_line, hBa, B_tok o1 (by decide +kernel) (by decide), B_sp1, hBb, o2]
    simp only [Option.bind_some, Option.map_some, List.dropLast_concat, List.map_append, List.map_cons, hnt]
    rfl
  obtain ⟨z, z1, z2⟩ := pAns_list (k := 2) hzP hBP (pTk_of p4 rfl)
  -- the wrapped one
  have h1' := far_read 67 (by omega) h1
  have g1' := far_read 67 (by omega) g1
  obtain ⟨k1, w1⟩ := par4 (d := 66) (S := tO :: tS [40] :: (U ++ tS [41] :: tS [41] :: [tE 0])) hokV h1' (by omega) (by simp) hIO
  obtain ⟨k2, w2⟩ := par4 (d := 66) (S := tS [41] :: [tE 0]) hokU g1' (by omega) (by simp) (inr41 4)
  have w3 := up6 w1 (hlow _).2.1 (hlow _).1
  have w4 := up6 w2 (op41 5 _) (op41 4 _)
  have w5 := cmp3 (f := max (k1 + 3) (k2 + 3)) (read_up w3 (by omega)) (hop3 _) (read_up w4 (by omega))
  have w6 := up3 w5 (by show ([[110, 111, 116]] : List (List UInt8)).contains (bytes (str [40])) = false; rw [bytes_str]; rfl) (op41 1 _) (op41 0 _)
  have w7 := par7 (d := 65) (t := tS [40]) (by show bytes (str [40]) = _; rw [bytes_str]) (by decide) (by simp) (by omega) w6 (by show (bytes (str [41]) == [41]) = true; rw [bytes_str]; rfl)
  have w8 := up6 (up7 w7 (by show ([[45]] : List (List UInt8)).contains (bytes (str [40])) = false; rw [bytes_str]; rfl)) (op_end _ _) (op_end _ _)
  have w9 := up3 (up4 w8 (op_end _ _)) (by show ([[110, 111, 116]] : List (List UInt8)).contains (bytes (str [40])) = false; rw [bytes_str]; rfl) (op_end _ _) (op_end _ _)
  have hBW : B (bytes ((⟨#[40, 40]⟩ : ByteArray) ++ a ++ (⟨#[10, 41, 32]⟩ : ByteArray) ++ o ++ (⟨#[32, 40]⟩ : ByteArray) ++ b ++ (⟨#[10, 41, 41]⟩ : ByteArray))) = some ((tS [40] :: tS [40] :: (V ++ tS [41] :: tO :: tS [40] :: (U ++ tS [41] :: tS [41] :: [tE 0]))).map nt) := by
    have e1 : bytes ((⟨#[40, 40]⟩ : ByteArray) ++ a ++ (⟨#[10, 41, 32]⟩ : ByteArray) ++ o ++ (⟨#[32, 40]⟩ : ByteArray) ++ b ++ (⟨#[10, 41, 41]⟩ : ByteArray)) = 40 :: 40 :: (bytes a ++ 10 :: 41 :: 32 :: (bytes o ++ 32 :: 40 :: (bytes b ++ 10 :: 41 :: 41 :: []))) := by
      simp only [bytes_app, List.append_assoc]; rfl
    rw [e1, B_40, B_40, B_line, hBa, B_41, B_sp1, B_tok o1 (by decide +kernel) (by decide), B_sp1, B_40, B_line, hBb, B_41, B_41, B_nil, o2]
    simp only [Option.bind_some, Option.map_some, List.dropLast_concat, List.map_append, List.map_cons, hnt, nt_S]
    rfl
  have hzW : ((⟨#[40, 40]⟩ : ByteArray) ++ a ++ (⟨#[10, 41, 32]⟩ : ByteArray) ++ o ++ (⟨#[32, 40]⟩ : ByteArray) ++ b ++ (⟨#[10, 41, 41]⟩ : ByteArray)).size ≤ 65536 := by
    rw [← bytes_length]
    simp only [bytes_app, List.length_append, bytes_length]
    show 2 + a.size + 3 + o.size + 2 + b.size + 3 ≤ 65536
    omega
  obtain ⟨p, hp⟩ : ∃ p, bareS z = bareS p := ⟨z, rfl⟩
  have hz2 : bareS (.mk 22 (pHd (V ++ tO :: (U ++ [tE 0]))).a tO.t 0 ([x] ++ [y])) = bareS z := z2
  obtain ⟨zk, za, zt, zn, zs⟩ := z
  rw [bareS, bareS, Syn.mk.injEq] at hz2
  obtain ⟨hz3, -, hz4, hz5, hz6⟩ := hz2
  subst hz3; subst hz5
  have hzt : zt = o := by rw [← hz4, htO]
  subst hzt
  refine ⟨zs, za, z1, ?_, ?_⟩
  · show ∃ p1 p2, _
    have hl : zs.length = 2 := by
      have := congrArg List.length hz6
      rw [bareL_length, bareL_length] at this
      exact this.symm
    obtain ⟨p1, zs, rfl⟩ := List.exists_cons_of_length_pos (show 0 < zs.length by omega)
    obtain ⟨p2, zs, rfl⟩ := List.exists_cons_of_length_pos (show 0 < zs.length by rw [List.length_cons] at hl; omega)
    have h0 : zs = [] := List.length_eq_zero_iff.1 (by rw [List.length_cons, List.length_cons] at hl; omega)
    subst h0
    have h := hz6
    rw [List.singleton_append] at h
    simp only [bareL, List.cons.injEq, and_true] at h
    exact ⟨p1, p2, rfl, h.1.symm, h.2.symm⟩
  · rcases dp_read 0 w9 with g | ⟨c, g⟩
    · right
      obtain ⟨q, q1, q2⟩ := pAns_list (k := 2) hzW hBW (pTk_of (l := tS [40] :: tS [40] :: (V ++ tS [41] :: tO :: tS [40] :: (U ++ tS [41] :: tS [41] :: [tE 0]))) (xs := _) g rfl)
      refine ⟨q, q1, ?_⟩
      rw [← q2]
      show bareS _ = bareS (Syn.mk 22 _ tO.t 0 ([x] ++ [y]))
      rw [bareS, bareS, hz6, htO]
    · left
      exact pAns_deep (k := 2) hzW hBW g
end Go.Proofs.YtdibcllakkjegaaGreatDoor

/-
  surveyorlaw09: words for the walks of the laws.
-/
set_option linter.unusedSimpArgs false
set_option linter.unusedVariables false
namespace Go.Proofs.YtdibcllakkjegaaGreatDoor
open Go Go.Proofs Go.RowKit Go.Sort

theorem ent_bad {k : Nat} {s : ByteArray} {a : Int} {c : Nat} {w : World} {f : Nat} {args : Array Value} (hp : pAns k s = .error (a, c)) (h : Calls Tryz.prog f args w (Ans k s w)) : Calls Tryz.prog f args w (EntBad a c w) := by
  refine h.mono ?_
  rintro e w' ⟨k4, a4, t4, n4, o4, l4, c4, a, c, rfl, hb, hx⟩
  rcases hx with ⟨y, h1, -⟩ | ⟨h1, -, hv⟩
  · rw [hp] at h1; cases h1
  · rw [hp] at h1
    cases h1
    rw [hv]
    exact ⟨rfl, hb⟩
theorem row_head {lo : Nat} {W : World} {x : Syn} {r : List Syn} {b o : Nat} (h : rowAt lo W (x :: r) b o) : ∃ k a t n o2 l2 c2 q, x = .mk k a t n q ∧
    W.cell? ⟨b, o, none⟩ = some (.int .i64 k) ∧ W.cell? ⟨b, o + 1, none⟩ = some (.int .i64 a) ∧ W.cell? ⟨b, o + 2, none⟩ = some (.string t) ∧ W.cell? ⟨b, o + 3, none⟩ = some (.int .i64 n) ∧ W.cell? ⟨b, o + 4, none⟩ = some (.slice o2 l2 c2) ∧
    synAt lo W x (.agg #[.int .i64 k, .int .i64 a, .string t, .int .i64 n, .slice o2 l2 c2]) ∧ rowAt lo W r b (o + 5) := by
  rw [rowAt] at h
  obtain ⟨⟨v0, v1, v2, v3, v4, c0, c1, c2, c3, c4, hx⟩, hr⟩ := h
  obtain ⟨k, a, t, n, o2, l2, cc, q, e1, e2, -⟩ := hx.shape
  simp only [Value.agg.injEq, Array.mk.injEq, List.cons.injEq, and_true] at e2
  obtain ⟨rfl, rfl, rfl, rfl, rfl⟩ := e2
  exact ⟨k, a, t, n, o2, l2, cc, q, e1, c0, c1, c2, c3, c4, hx, hr⟩
/-- Trees are compared in a world that has grown. -/
theorem same_re {lo lo2 : Nat} {W : World} {x y : Syn} {v u : Value} (hx : synAt lo W x v) (hy : synAt lo2 W y u) {b : Bool} (he : eqS false x y = b) (d : Nat) (os : Array Obj) :
    Calls Tryz.prog 23 #[v, u] (grow (redrawn W d) os) fun e w'' => e = .returned (.bool b) ∧ ∃ p : Regrown, w'' = grow (redrawn W p.d) p.os := by
  have hb := below_regrown W d os
  have h := same_any9 x y lo lo2 v u _ (hx.below hb) (hy.below hb)
  rw [he] at h
  exact Calls.regrown_of h
theorem awake_re {w W : World} (hB : Below w.heap.size w W) (ht : Lib.TabBelow Tryz.prog w.heap.size w "surveyor/lexer.classes" .u8 clsTab) (hev : EvAt w) (d : Nat) (os : Array Obj) :
    Calls Tryz.prog 12 #[] (grow (redrawn W d) os) fun e w'' => e = .returned (.bool true) ∧ ∃ p : Regrown, w'' = grow (redrawn W p.d) p.os := by
  have hb := Below.chain hB (below_regrown W d os)
  exact Calls.regrown_of (awake09 _ (fun X hX => ht X (Below.chain hb hX)) (hev.below hb))
theorem Env.expr {w W : World} (h : Env w) (hB : Below w.heap.size w W) (s : ByteArray) : Calls Tryz.prog 26 #[.string s] W (Ans 3 s W) := pExpr s W (h.at hB).tab (h.at hB).ev
end Go.Proofs.YtdibcllakkjegaaGreatDoor

/-
  The law ParserParens.
-/
set_option linter.unusedSimpArgs false
set_option linter.unusedVariables false
namespace Go.Proofs.YtdibcllakkjegaaGreatDoor
open Go Go.Proofs Go.RowKit Go.Sort

/-- The signs of the law. -/
def sgL (j : Nat) : ByteArray := match j with | 0 => ⟨#[61]⟩ | 1 => ⟨#[60, 61]⟩ | 2 => ⟨#[60]⟩ | 3 => ⟨#[33, 61]⟩ | 4 => ⟨#[62]⟩ | _ => ⟨#[62, 61]⟩
theorem sg_el (j : Nat) (hj : j < 6) : ([.string ⟨#[61]⟩, .string ⟨#[60, 61]⟩, .string ⟨#[60]⟩, .string ⟨#[33, 61]⟩, .string ⟨#[62]⟩, .string ⟨#[62, 61]⟩] : List Value)[j]? = some (.string (sgL j)) ∧ (#[.string ⟨#[61]⟩, .string ⟨#[60, 61]⟩, .string ⟨#[60]⟩, .string ⟨#[33, 61]⟩, .string ⟨#[62]⟩, .string ⟨#[62, 61]⟩] : Array Value)[j]? = some (.string (sgL j)) ∧ ∀ h, ([.string ⟨#[61]⟩, .string ⟨#[60, 61]⟩, .string ⟨#[60]⟩, .string ⟨#[33, 61]⟩, .string ⟨#[62]⟩, .string ⟨#[62, 61]⟩] : List Value)[j]'h = .string (sgL j) := by
  rcases (show j = 0 ∨ j = 1 ∨ j = 2 ∨ j = 3 ∨ j = 4 ∨ j = 5 by omega) with rfl | rfl | rfl | rfl | rfl | rfl <;> exact ⟨rfl, rfl, fun _ => rfl⟩
theorem sg_mem (j : Nat) (hj : j < 6) : bytes (sgL j) ∈ cmpL ∧ (sgL j).size ≤ 2 := by
  rcases (show j = 0 ∨ j = 1 ∨ j = 2 ∨ j = 3 ∨ j = 4 ∨ j = 5 by omega) with rfl | rfl | rfl | rfl | rfl | rfl <;> exact ⟨by decide, by decide⟩
set_option maxRecDepth 20000 in
set_option maxHeartbeats 4000000 in
theorem lpar_big1 (a b : ByteArray) (n : Nat) (hn : n < 256) (g1 : decide ((300 : Int) < (a.size : Int)) = true) (w : World) (h : Env w) :
    Calls Tryz.prog 9 #[.string a, .string b, .int .u8 (n : Int)] w fun e w' => e = .returned (.bool true) ∧ Below w.heap.size w w' := by
  have HE := Lib.hid h; clear h
  go_enter Tryz.func9, Tryz.ntmps9
  go_wp2_with (go_at_call 12; refine (HE.out.awake (Below.refl _ _)).mono ?_; rintro e w1 ⟨rfl, hb⟩; refine Hid.out ?_)
  have B1 := Lib.hid (Below.chain (Below.refl _ _) hb)
  clear hb
  refine Lib.hid ?_
  go_wp2
  go_ret
  exact ⟨rfl, B1.out⟩
set_option maxRecDepth 20000 in
set_option maxHeartbeats 4000000 in
theorem lpar_big2 (a b : ByteArray) (n : Nat) (hn : n < 256) (g1 : decide ((300 : Int) < (a.size : Int)) = false) (g2 : decide ((300 : Int) < (b.size : Int)) = true) (w : World) (h : Env w) :
    Calls Tryz.prog 9 #[.string a, .string b, .int .u8 (n : Int)] w fun e w' => e = .returned (.bool true) ∧ Below w.heap.size w w' := by
  have HE := Lib.hid h; clear h
  go_enter Tryz.func9, Tryz.ntmps9
  go_wp2_with (go_at_call 12; refine (HE.out.awake (Below.refl _ _)).mono ?_; rintro e w1 ⟨rfl, hb⟩; refine Hid.out ?_)
  have B1 := Lib.hid (Below.chain (Below.refl _ _) hb)
  clear hb
  refine Lib.hid ?_
  go_wp2
  go_ret
  exact ⟨rfl, B1.out⟩
set_option maxRecDepth 20000 in
set_option maxHeartbeats 4000000 in
theorem lpar_bad1 (a b : ByteArray) (n : Nat) (hn : n < 256) (g1 : decide ((300 : Int) < (a.size : Int)) = false) (g2 : decide ((300 : Int) < (b.size : Int)) = false) (at1 : Int) (cc : Nat) (hp : pAns 3 a = .error (at1, cc)) (y : Syn) (hq : pAns 3 b = .ok y) (w : World) (h : Env w) :
    Calls Tryz.prog 9 #[.string a, .string b, .int .u8 (n : Int)] w fun e w' => e = .returned (.bool true) ∧ Below w.heap.size w w' := by
  have HE := Lib.hid h; have HP := Lib.hid hp; have HQ := Lib.hid hq; clear h hp hq
  go_enter Tryz.func9, Tryz.ntmps9
  go_wp2_with (go_at_call 26; refine (ent_code HP.out (HE.out.expr (Below.refl _ _) _)).mono ?_; rintro e w1 ⟨hc1, rfl, hb⟩; refine Hid.out ?_)
  have hA : Below w1.heap.size w1 (w1.alloc (Obj.cells #[.int .i64 0, .int .i64 0, .string ⟨#[]⟩, .int .i64 0, .slice none 0 0] 25)) := (Below.refl _ _).alloc (Nat.le_refl _) _
  have B1 := Lib.hid (Below.chain (Below.refl _ _) (Below.chain hb hA))
  have X1_1 := Lib.hid (Bx5.new w1 (.int .i64 0) (.int .i64 0) (.string ⟨#[]⟩) (.int .i64 0) (.slice none 0 0))
  clear hA hb
  obtain ⟨te1, te1'⟩ := err_ne hc1
  refine Lib.hid ?_
  go_wp2_with (go_at_call 26; refine (ent_ok HQ.out (HE.out.expr B1.out _)).mono ?_; rintro e w2 ⟨k2, a2, t2, n2, o2, l2, c2, q2, hq2, rfl, hb, hx⟩; refine Hid.out ?_)
  have hA : Below w2.heap.size w2 (w2.alloc (Obj.cells #[.int .i64 k2, .int .i64 a2, .string t2, .int .i64 n2, .slice o2 l2 c2] 25)) := (Below.refl _ _).alloc (Nat.le_refl _) _
  have B2 := Lib.hid (Below.chain B1.out (Below.chain hb hA))
  have X1_2 := Lib.hid (X1_1.out.below (Below.chain hb hA))
  clear X1_1
  have X2_2 := Lib.hid (Bx5.new w2 (.int .i64 k2) (.int .i64 a2) (.string t2) (.int .i64 n2) (.slice o2 l2 c2))
  have S2_2 := Lib.hid (hx.below hA)
  clear hA hb hx
  refine Lib.hid ?_
  go_wp2_with (go_at_call 12; refine (HE.out.awake B2.out).mono ?_; rintro e w3 ⟨rfl, hb⟩; refine Hid.out ?_)
  have B3 := Lib.hid (Below.chain B2.out hb)
  clear hb
  refine Lib.hid ?_
  go_wp2
  go_ret
  exact ⟨rfl, B3.out⟩
set_option maxRecDepth 20000 in
set_option maxHeartbeats 4000000 in
theorem lpar_bad2 (a b : ByteArray) (n : Nat) (hn : n < 256) (g1 : decide ((300 : Int) < (a.size : Int)) = false) (g2 : decide ((300 : Int) < (b.size : Int)) = false) (at1 : Int) (cc : Nat) (hp : pAns 3 a = .error (at1, cc)) (a2 : Int) (c2 : Nat) (hq : pAns 3 b = .error (a2, c2)) (w : World) (h : Env w) :
    Calls Tryz.prog 9 #[.string a, .string b, .int .u8 (n : Int)] w fun e w' => e = .returned (.bool true) ∧ Below w.heap.size w w' := by
  have HE := Lib.hid h; have HP := Lib.hid hp; have HQ := Lib.hid hq; clear h hp hq
  go_enter Tryz.func9, Tryz.ntmps9
  go_wp2_with (go_at_call 26; refine (ent_code HP.out (HE.out.expr (Below.refl _ _) _)).mono ?_; rintro e w1 ⟨hc1, rfl, hb⟩; refine Hid.out ?_)
  have hA : Below w1.heap.size w1 (w1.alloc (Obj.cells #[.int .i64 0, .int .i64 0, .string ⟨#[]⟩, .int .i64 0, .slice none 0 0] 25)) := (Below.refl _ _).alloc (Nat.le_refl _) _
  have B1 := Lib.hid (Below.chain (Below.refl _ _) (Below.chain hb hA))
  have X1_1 := Lib.hid (Bx5.new w1 (.int .i64 0) (.int .i64 0) (.string ⟨#[]⟩) (.int .i64 0) (.slice none 0 0))
  clear hA hb
  obtain ⟨te1, te1'⟩ := err_ne hc1
  refine Lib.hid ?_
  go_wp2_with (go_at_call 26; refine (ent_code HQ.out (HE.out.expr B1.out _)).mono ?_; rintro e w2 ⟨hc2, rfl, hb⟩; refine Hid.out ?_)
  have hA : Below w2.heap.size w2 (w2.alloc (Obj.cells #[.int .i64 0, .int .i64 0, .string ⟨#[]⟩, .int .i64 0, .slice none 0 0] 25)) := (Below.refl _ _).alloc (Nat.le_refl _) _
  have B2 := Lib.hid (Below.chain B1.out (Below.chain hb hA))
  have X1_2 := Lib.hid (X1_1.out.below (Below.chain hb hA))
  clear X1_1
  have X2_2 := Lib.hid (Bx5.new w2 (.int .i64 0) (.int .i64 0) (.string ⟨#[]⟩) (.int .i64 0) (.slice none 0 0))
  clear hA hb
  obtain ⟨te2, te2'⟩ := err_ne hc2
  refine Lib.hid ?_
  go_wp2_with (go_at_call 12; refine (HE.out.awake B2.out).mono ?_; rintro e w3 ⟨rfl, hb⟩; refine Hid.out ?_)
  have B3 := Lib.hid (Below.chain B2.out hb)
  clear hb
  refine Lib.hid ?_
  go_wp2
  go_ret
  exact ⟨rfl, B3.out⟩
set_option maxRecDepth 20000 in
set_option maxHeartbeats 4000000 in
theorem lpar_bad3 (a b : ByteArray) (n : Nat) (hn : n < 256) (g1 : decide ((300 : Int) < (a.size : Int)) = false) (g2 : decide ((300 : Int) < (b.size : Int)) = false) (x : Syn) (hp : pAns 3 a = .ok x) (at2 : Int) (cc : Nat) (hq : pAns 3 b = .error (at2, cc)) (w : World) (h : Env w) :
    Calls Tryz.prog 9 #[.string a, .string b, .int .u8 (n : Int)] w fun e w' => e = .returned (.bool true) ∧ Below w.heap.size w w' := by
  have HE := Lib.hid h; have HP := Lib.hid hp; have HQ := Lib.hid hq; clear h hp hq
  go_enter Tryz.func9, Tryz.ntmps9
  go_wp2_with (go_at_call 26; refine (ent_ok HP.out (HE.out.expr (Below.refl _ _) _)).mono ?_; rintro e w1 ⟨k1, a1, t1, n1, o1, l1, c1, q1, hq1, rfl, hb, hx⟩; refine Hid.out ?_)
  have hA : Below w1.heap.size w1 (w1.alloc (Obj.cells #[.int .i64 k1, .int .i64 a1, .string t1, .int .i64 n1, .slice o1 l1 c1] 25)) := (Below.refl _ _).alloc (Nat.le_refl _) _
  have B1 := Lib.hid (Below.chain (Below.refl _ _) (Below.chain hb hA))
  have X1_1 := Lib.hid (Bx5.new w1 (.int .i64 k1) (.int .i64 a1) (.string t1) (.int .i64 n1) (.slice o1 l1 c1))
  have S1_1 := Lib.hid (hx.below hA)
  clear hA hb hx
  refine Lib.hid ?_
  go_wp2_with (go_at_call 26; refine (ent_code HQ.out (HE.out.expr B1.out _)).mono ?_; rintro e w2 ⟨hc2, rfl, hb⟩; refine Hid.out ?_)
  have hA : Below w2.heap.size w2 (w2.alloc (Obj.cells #[.int .i64 0, .int .i64 0, .string ⟨#[]⟩, .int .i64 0, .slice none 0 0] 25)) := (Below.refl _ _).alloc (Nat.le_refl _) _
  have B2 := Lib.hid (Below.chain B1.out (Below.chain hb hA))
  have X1_2 := Lib.hid (X1_1.out.below (Below.chain hb hA))
  clear X1_1
  have S1_2 := Lib.hid (S1_1.out.below (Below.chain hb hA))
  clear S1_1
  have X2_2 := Lib.hid (Bx5.new w2 (.int .i64 0) (.int .i64 0) (.string ⟨#[]⟩) (.int .i64 0) (.slice none 0 0))
  clear hA hb
  obtain ⟨te2, te2'⟩ := err_ne hc2
  refine Lib.hid ?_
  go_wp2_with (go_at_call 12; refine (HE.out.awake B2.out).mono ?_; rintro e w3 ⟨rfl, hb⟩; refine Hid.out ?_)
  have B3 := Lib.hid (Below.chain B2.out hb)
  clear hb
  refine Lib.hid ?_
  go_wp2
  go_ret
  exact ⟨rfl, B3.out⟩
set_option maxRecDepth 20000 in
set_option maxHeartbeats 4000000 in
theorem lpar_deep (a b : ByteArray) (n : Nat) (hn : n < 256) (g1 : decide ((300 : Int) < (a.size : Int)) = false) (g2 : decide ((300 : Int) < (b.size : Int)) = false) (x y : Syn) (hp : pAns 3 a = .ok x) (hq : pAns 3 b = .ok y) (hd : ∀ (o : ByteArray), o = sgL (n % 6) → ∃ c, pAns 2 ((⟨#[40, 40]⟩ : ByteArray) ++ a ++ (⟨#[10, 41, 32]⟩ : ByteArray) ++ o ++ (⟨#[32, 40]⟩ : ByteArray) ++ b ++ (⟨#[10, 41, 41]⟩ : ByteArray)) = .error (c, 12)) (w : World) (h : Env w) :
    Calls Tryz.prog 9 #[.string a, .string b, .int .u8 (n : Int)] w fun e w' => e = .returned (.bool true) ∧ Below w.heap.size w w' := by
  have hj : n % 6 < 6 := Nat.mod_lt _ (by decide)
  have hm : ((n : Int)).tmod 6 = ((n % 6 : Nat) : Int) := by rw [Int.tmod_eq_emod_of_nonneg (by omega)]; omega
  obtain ⟨hsg1, hsg2, hsg3⟩ := sg_el (n % 6) hj
  have hwn : wrap64 (n : Int) = (n : Int) := (wrapB _ (by omega) (by omega)).2
  obtain ⟨hmem, hoz⟩ := sg_mem (n % 6) hj
  have hz : a.size ≤ 300 ∧ b.size ≤ 300 := by
    rw [decide_eq_false_iff_not] at g1 g2
    omega
  obtain ⟨p, at', m1, ⟨p1, p2, rfl, m2, m3⟩, -⟩ := parens_math hmem (by omega) hp hq
  obtain ⟨c4, m4⟩ := hd _ rfl
  clear hd
  generalize sgL (n % 6) = o at *
  generalize n % 6 = j at *
  have j1 : (0 : Int) ≤ (j : Int) := by omega
  have j2 : (j : Int) < 6 := by omega
  clear hj
  have u1 : ¬ 9223372036854775807 < a.size + 1 := by omega
  have y1 : ¬ 9223372036854775807 < a.size + 1 := by omega
  have u2 : ¬ 9223372036854775807 < a.size + 1 + o.size := by omega
  have y2 : ¬ 9223372036854775807 < (((a : ByteArray) ++ (⟨#[10]⟩ : ByteArray))).size + o.size := by simp only [ByteArray.size_append, show (⟨#[10]⟩ : ByteArray).size = 1 from rfl, show (⟨#[32]⟩ : ByteArray).size = 1 from rfl, show (⟨#[40, 40]⟩ : ByteArray).size = 2 from rfl, show (⟨#[10, 41, 32]⟩ : ByteArray).size = 3 from rfl, show (⟨#[32, 40]⟩ : ByteArray).size = 2 from rfl, show (⟨#[10, 41, 41]⟩ : ByteArray).size = 3 from rfl]; omega
  have u3 : ¬ 9223372036854775807 < a.size + 1 + o.size + 1 := by omega
  have y3 : ¬ 9223372036854775807 < ((((a : ByteArray) ++ (⟨#[10]⟩ : ByteArray)) ++ (o : ByteArray))).size + 1 := by simp only [ByteArray.size_append, show (⟨#[10]⟩ : ByteArray).size = 1 from rfl, show (⟨#[32]⟩ : ByteArray).size = 1 from rfl, show (⟨#[40, 40]⟩ : ByteArray).size = 2 from rfl, show (⟨#[10, 41, 32]⟩ : ByteArray).size = 3 from rfl, show (⟨#[32, 40]⟩ : ByteArray).size = 2 from rfl, show (⟨#[10, 41, 41]⟩ : ByteArray).size = 3 from rfl]; omega
  have u4 : ¬ 9223372036854775807 < a.size + 1 + o.size + 1 + b.size := by omega
  have y4 : ¬ 9223372036854775807 < (((((a : ByteArray) ++ (⟨#[10]⟩ : ByteArray)) ++ (o : ByteArray)) ++ (⟨#[32]⟩ : ByteArray))).size + b.size := by simp only [ByteArray.size_append, show (⟨#[10]⟩ : ByteArray).size = 1 from rfl, show (⟨#[32]⟩ : ByteArray).size = 1 from rfl, show (⟨#[40, 40]⟩ : ByteArray).size = 2 from rfl, show (⟨#[10, 41, 32]⟩ : ByteArray).size = 3 from rfl, show (⟨#[32, 40]⟩ : ByteArray).size = 2 from rfl, show (⟨#[10, 41, 41]⟩ : ByteArray).size = 3 from rfl]; omega
  have u5 : ¬ 9223372036854775807 < 2 + a.size := by omega
  have y5 : ¬ 9223372036854775807 < 2 + a.size := by omega
  have u6 : ¬ 9223372036854775807 < 2 + a.size + 3 := by omega
  have y6 : ¬ 9223372036854775807 < (((⟨#[40, 40]⟩ : ByteArray) ++ (a : ByteArray))).size + 3 := by simp only [ByteArray.size_append, show (⟨#[10]⟩ : ByteArray).size = 1 from rfl, show (⟨#[32]⟩ : ByteArray).size = 1 from rfl, show (⟨#[40, 40]⟩ : ByteArray).size = 2 from rfl, show (⟨#[10, 41, 32]⟩ : ByteArray).size = 3 from rfl, show (⟨#[32, 40]⟩ : ByteArray).size = 2 from rfl, show (⟨#[10, 41, 41]⟩ : ByteArray).size = 3 from rfl]; omega
  have u7 : ¬ 9223372036854775807 < 2 + a.size + 3 + o.size := by omega
  have y7 : ¬ 9223372036854775807 < ((((⟨#[40, 40]⟩ : ByteArray) ++ (a : ByteArray)) ++ (⟨#[10, 41, 32]⟩ : ByteArray))).size + o.size := by simp only [ByteArray.size_append, show (⟨#[10]⟩ : ByteArray).size = 1 from rfl, show (⟨#[32]⟩ : ByteArray).size = 1 from rfl, show (⟨#[40, 40]⟩ : ByteArray).size = 2 from rfl, show (⟨#[10, 41, 32]⟩ : ByteArray).size = 3 from rfl, show (⟨#[32, 40]⟩ : ByteArray).size = 2 from rfl, show (⟨#[10, 41, 41]⟩ : ByteArray).size = 3 from rfl]; omega
  have u8 : ¬ 9223372036854775807 < 2 + a.size + 3 + o.size + 2 := by omega
  have y8 : ¬ 9223372036854775807 < (((((⟨#[40, 40]⟩ : ByteArray) ++ (a : ByteArray)) ++ (⟨#[10, 41, 32]⟩ : ByteArray)) ++ (o : ByteArray))).size + 2 := by simp only [ByteArray.size_append, show (⟨#[10]⟩ : ByteArray).size = 1 from rfl, show (⟨#[32]⟩ : ByteArray).size = 1 from rfl, show (⟨#[40, 40]⟩ : ByteArray).size = 2 from rfl, show (⟨#[10, 41, 32]⟩ : ByteArray).size = 3 from rfl, show (⟨#[32, 40]⟩ : ByteArray).size = 2 from rfl, show (⟨#[10, 41, 41]⟩ : ByteArray).size = 3 from rfl]; omega
  have u9 : ¬ 9223372036854775807 < 2 + a.size + 3 + o.size + 2 + b.size := by omega
  have y9 : ¬ 9223372036854775807 < ((((((⟨#[40, 40]⟩ : ByteArray) ++ (a : ByteArray)) ++ (⟨#[10, 41, 32]⟩ : ByteArray)) ++ (o : ByteArray)) ++ (⟨#[32, 40]⟩ : ByteArray))).size + b.size := by simp only [ByteArray.size_append, show (⟨#[10]⟩ : ByteArray).size = 1 from rfl, show (⟨#[32]⟩ : ByteArray).size = 1 from rfl, show (⟨#[40, 40]⟩ : ByteArray).size = 2 from rfl, show (⟨#[10, 41, 32]⟩ : ByteArray).size = 3 from rfl, show (⟨#[32, 40]⟩ : ByteArray).size = 2 from rfl, show (⟨#[10, 41, 41]⟩ : ByteArray).size = 3 from rfl]; omega
  have u10 : ¬ 9223372036854775807 < 2 + a.size + 3 + o.size + 2 + b.size + 3 := by omega
  have y10 : ¬ 9223372036854775807 < (((((((⟨#[40, 40]⟩ : ByteArray) ++ (a : ByteArray)) ++ (⟨#[10, 41, 32]⟩ : ByteArray)) ++ (o : ByteArray)) ++ (⟨#[32, 40]⟩ : ByteArray)) ++ (b : ByteArray))).size + 3 := by simp only [ByteArray.size_append, show (⟨#[10]⟩ : ByteArray).size = 1 from rfl, show (⟨#[32]⟩ : ByteArray).size = 1 from rfl, show (⟨#[40, 40]⟩ : ByteArray).size = 2 from rfl, show (⟨#[10, 41, 32]⟩ : ByteArray).size = 3 from rfl, show (⟨#[32, 40]⟩ : ByteArray).size = 2 from rfl, show (⟨#[10, 41, 41]⟩ : ByteArray).size = 3 from rfl]; omega
  have HE := Lib.hid h; have HP := Lib.hid hp; have HQ := Lib.hid hq; have HM := Lib.hid m1; have H2 := Lib.hid (And.intro m2 m3); have H4 := Lib.hid m4; clear h hp hq m1 m2 m3 m4 hz hoz hmem
  go_enter Tryz.func9, Tryz.ntmps9
  go_wp2_with (go_at_call 26; refine (ent_ok HP.out (HE.out.expr (Below.refl _ _) _)).mono ?_; rintro e w1 ⟨k1, a1, t1, n1, o1, l1, c1, q1, hq1, rfl, hb, hx⟩; refine Hid.out ?_)
  have hA : Below w1.heap.size w1 (w1.alloc (Obj.cells #[.int .i64 k1, .int .i64 a1, .string t1, .int .i64 n1, .slice o1 l1 c1] 25)) := (Below.refl _ _).alloc (Nat.le_refl _) _
  have B1 := Lib.hid (Below.chain (Below.refl _ _) (Below.chain hb hA))
  have X1_1 := Lib.hid (Bx5.new w1 (.int .i64 k1) (.int .i64 a1) (.string t1) (.int .i64 n1) (.slice o1 l1 c1))
  have S1_1 := Lib.hid (hx.below hA)
  clear hA hb hx
  refine Lib.hid ?_
  go_wp2_with (go_at_call 26; refine (ent_ok HQ.out (HE.out.expr B1.out _)).mono ?_; rintro e w2 ⟨k2, a2, t2, n2, o2, l2, c2, q2, hq2, rfl, hb, hx⟩; refine Hid.out ?_)
  have hA : Below w2.heap.size w2 (w2.alloc (Obj.cells #[.int .i64 k2, .int .i64 a2, .string t2, .int .i64 n2, .slice o2 l2 c2] 25)) := (Below.refl _ _).alloc (Nat.le_refl _) _
  have B2 := Lib.hid (Below.chain B1.out (Below.chain hb hA))
  have X1_2 := Lib.hid (X1_1.out.below (Below.chain hb hA))
  clear X1_1
  have S1_2 := Lib.hid (S1_1.out.below (Below.chain hb hA))
  clear S1_1
  have X2_2 := Lib.hid (Bx5.new w2 (.int .i64 k2) (.int .i64 a2) (.string t2) (.int .i64 n2) (.slice o2 l2 c2))
  have S2_2 := Lib.hid (hx.below hA)
  clear hA hb hx
  refine Lib.hid ?_
  have hL := (Below.refl (w2.alloc (Obj.cells #[.int .i64 k2, .int .i64 a2, .string t2, .int .i64 n2, .slice o2 l2 c2] 25)).heap.size (w2.alloc (Obj.cells #[.int .i64 k2, .int .i64 a2, .string t2, .int .i64 n2, .slice o2 l2 c2] 25))).alloc (Nat.le_refl _) (Obj.cells #[.string ⟨#[61]⟩, .string ⟨#[60, 61]⟩, .string ⟨#[60]⟩, .string ⟨#[33, 61]⟩, .string ⟨#[62]⟩, .string ⟨#[62, 61]⟩] 9)
  have BL := Lib.hid (Below.chain B2.out hL)
  have X1_9 := Lib.hid (X1_2.out.below hL)
  clear X1_2
  have S1_9 := Lib.hid (S1_2.out.below hL)
  clear S1_2
  have X2_9 := Lib.hid (X2_2.out.below hL)
  clear X2_2
  have S2_9 := Lib.hid (S2_2.out.below hL)
  clear S2_2
  clear hL
  go_wp2_with (go_at_call 19; refine (ent_ok HM.out (HE.out.cond BL.out _)).mono ?_; rintro e w3 ⟨k3, a3, t3, n3, o3, l3, c3, q3, hq3, rfl, hb, hx⟩; refine Hid.out ?_)
  have hA : Below w3.heap.size w3 (w3.alloc (Obj.cells #[.int .i64 k3, .int .i64 a3, .string t3, .int .i64 n3, .slice o3 l3 c3] 25)) := (Below.refl _ _).alloc (Nat.le_refl _) _
  have B3 := Lib.hid (Below.chain BL.out (Below.chain hb hA))
  have X1_3 := Lib.hid (X1_9.out.below (Below.chain hb hA))
  clear X1_9
  have S1_3 := Lib.hid (S1_9.out.below (Below.chain hb hA))
  clear S1_9
  have X2_3 := Lib.hid (X2_9.out.below (Below.chain hb hA))
  clear X2_9
  have S2_3 := Lib.hid (S2_9.out.below (Below.chain hb hA))
  clear S2_9
  have X3_3 := Lib.hid (Bx5.new w3 (.int .i64 k3) (.int .i64 a3) (.string t3) (.int .i64 n3) (.slice o3 l3 c3))
  have S3_3 := Lib.hid (hx.below hA)
  clear hA hb hx
  refine Lib.hid ?_
  go_wp2_with (go_at_call 19; refine (ent_bad H4.out (HE.out.cond B3.out _)).mono ?_; rintro e w4 ⟨rfl, hb⟩; refine Hid.out ?_)
  have hA : Below w4.heap.size w4 (w4.alloc (Obj.cells #[.int .i64 0, .int .i64 0, .string ⟨#[]⟩, .int .i64 0, .slice none 0 0] 25)) := (Below.refl _ _).alloc (Nat.le_refl _) _
  have B4 := Lib.hid (Below.chain B3.out (Below.chain hb hA))
  have X1_4 := Lib.hid (X1_3.out.below (Below.chain hb hA))
  clear X1_3
  have S1_4 := Lib.hid (S1_3.out.below (Below.chain hb hA))
  clear S1_3
  have X2_4 := Lib.hid (X2_3.out.below (Below.chain hb hA))
  clear X2_3
  have S2_4 := Lib.hid (S2_3.out.below (Below.chain hb hA))
  clear S2_3
  have X3_4 := Lib.hid (X3_3.out.below (Below.chain hb hA))
  clear X3_3
  have S3_4 := Lib.hid (S3_3.out.below (Below.chain hb hA))
  clear S3_3
  have X4_4 := Lib.hid (Bx5.new w4 (.int .i64 0) (.int .i64 0) (.string ⟨#[]⟩) (.int .i64 0) (.slice none 0 0))
  clear hA hb
  refine Lib.hid ?_
  go_wp2_with (go_at_call 12; refine (HE.out.awake B4.out).mono ?_; rintro e w5 ⟨rfl, hb⟩; refine Hid.out ?_)
  have B5 := Lib.hid (Below.chain B4.out hb)
  clear hb
  refine Lib.hid ?_
  go_wp2
  go_ret
  exact ⟨rfl, B5.out⟩
set_option maxRecDepth 20000 in
set_option maxHeartbeats 4000000 in
theorem lpar_good (a b : ByteArray) (n : Nat) (hn : n < 256) (g1 : decide ((300 : Int) < (a.size : Int)) = false) (g2 : decide ((300 : Int) < (b.size : Int)) = false) (x y z : Syn) (hp : pAns 3 a = .ok x) (hq : pAns 3 b = .ok y) (hd : ∀ (o : ByteArray) (at' : Int) (p : List Syn), o = sgL (n % 6) → pAns 2 (a ++ (⟨#[10]⟩ : ByteArray) ++ o ++ (⟨#[32]⟩ : ByteArray) ++ b) = .ok (.mk 22 at' o 0 p) → pAns 2 ((⟨#[40, 40]⟩ : ByteArray) ++ a ++ (⟨#[10, 41, 32]⟩ : ByteArray) ++ o ++ (⟨#[32, 40]⟩ : ByteArray) ++ b ++ (⟨#[10, 41, 41]⟩ : ByteArray)) = .ok z ∧ bareS (.mk 22 at' o 0 p) = bareS z) (w : World) (h : Env w) :
    Calls Tryz.prog 9 #[.string a, .string b, .int .u8 (n : Int)] w fun e w' => e = .returned (.bool true) ∧ Below w.heap.size w w' := by
  have hj : n % 6 < 6 := Nat.mod_lt _ (by decide)
  have hm : ((n : Int)).tmod 6 = ((n % 6 : Nat) : Int) := by rw [Int.tmod_eq_emod_of_nonneg (by omega)]; omega
  obtain ⟨hsg1, hsg2, hsg3⟩ := sg_el (n % 6) hj
  have hwn : wrap64 (n : Int) = (n : Int) := (wrapB _ (by omega) (by omega)).2
  obtain ⟨hmem, hoz⟩ := sg_mem (n % 6) hj
  have hz : a.size ≤ 300 ∧ b.size ≤ 300 := by
    rw [decide_eq_false_iff_not] at g1 g2
    omega
  obtain ⟨p, at', m1, ⟨p1, p2, rfl, m2, m3⟩, -⟩ := parens_math hmem (by omega) hp hq
  obtain ⟨m4, m5⟩ := hd _ _ _ rfl m1
  have H5 := Lib.hid m5
  clear hd m5
  generalize sgL (n % 6) = o at *
  generalize n % 6 = j at *
  have j1 : (0 : Int) ≤ (j : Int) := by omega
  have j2 : (j : Int) < 6 := by omega
  clear hj
  have u1 : ¬ 9223372036854775807 < a.size + 1 := by omega
  have y1 : ¬ 9223372036854775807 < a.size + 1 := by omega
  have u2 : ¬ 9223372036854775807 < a.size + 1 + o.size := by omega
  have y2 : ¬ 9223372036854775807 < (((a : ByteArray) ++ (⟨#[10]⟩ : ByteArray))).size + o.size := by simp only [ByteArray.size_append, show (⟨#[10]⟩ : ByteArray).size = 1 from rfl, show (⟨#[32]⟩ : ByteArray).size = 1 from rfl, show (⟨#[40, 40]⟩ : ByteArray).size = 2 from rfl, show (⟨#[10, 41, 32]⟩ : ByteArray).size = 3 from rfl, show (⟨#[32, 40]⟩ : ByteArray).size = 2 from rfl, show (⟨#[10, 41, 41]⟩ : ByteArray).size = 3 from rfl]; omega
  have u3 : ¬ 9223372036854775807 < a.size + 1 + o.size + 1 := by omega
  have y3 : ¬ 9223372036854775807 < ((((a : ByteArray) ++ (⟨#[10]⟩ : ByteArray)) ++ (o : ByteArray))).size + 1 := by simp only [ByteArray.size_append, show (⟨#[10]⟩ : ByteArray).size = 1 from rfl, show (⟨#[32]⟩ : ByteArray).size = 1 from rfl, show (⟨#[40, 40]⟩ : ByteArray).size = 2 from rfl, show (⟨#[10, 41, 32]⟩ : ByteArray).size = 3 from rfl, show (⟨#[32, 40]⟩ : ByteArray).size = 2 from rfl, show (⟨#[10, 41, 41]⟩ : ByteArray).size = 3 from rfl]; omega
  have u4 : ¬ 9223372036854775807 < a.size + 1 + o.size + 1 + b.size := by omega
  have y4 : ¬ 9223372036854775807 < (((((a : ByteArray) ++ (⟨#[10]⟩ : ByteArray)) ++ (o : ByteArray)) ++ (⟨#[32]⟩ : ByteArray))).size + b.size := by simp only [ByteArray.size_append, show (⟨#[10]⟩ : ByteArray).size = 1 from rfl, show (⟨#[32]⟩ : ByteArray).size = 1 from rfl, show (⟨#[40, 40]⟩ : ByteArray).size = 2 from rfl, show (⟨#[10, 41, 32]⟩ : ByteArray).size = 3 from rfl, show (⟨#[32, 40]⟩ : ByteArray).size = 2 from rfl, show (⟨#[10, 41, 41]⟩ : ByteArray).size = 3 from rfl]; omega
  have u5 : ¬ 9223372036854775807 < 2 + a.size := by omega
  have y5 : ¬ 9223372036854775807 < 2 + a.size := by omega
  have u6 : ¬ 9223372036854775807 < 2 + a.size + 3 := by omega
  have y6 : ¬ 9223372036854775807 < (((⟨#[40, 40]⟩ : ByteArray) ++ (a : ByteArray))).size + 3 := by simp only [ByteArray.size_append, show (⟨#[10]⟩ : ByteArray).size = 1 from rfl, show (⟨#[32]⟩ : ByteArray).size = 1 from rfl, show (⟨#[40, 40]⟩ : ByteArray).size = 2 from rfl, show (⟨#[10, 41, 32]⟩ : ByteArray).size = 3 from rfl, show (⟨#[32, 40]⟩ : ByteArray).size = 2 from rfl, show (⟨#[10, 41, 41]⟩ : ByteArray).size = 3 from rfl]; omega
  have u7 : ¬ 9223372036854775807 < 2 + a.size + 3 + o.size := by omega
  have y7 : ¬ 9223372036854775807 < ((((⟨#[40, 40]⟩ : ByteArray) ++ (a : ByteArray)) ++ (⟨#[10, 41, 32]⟩ : ByteArray))).size + o.size := by simp only [ByteArray.size_append, show (⟨#[10]⟩ : ByteArray).size = 1 from rfl, show (⟨#[32]⟩ : ByteArray).size = 1 from rfl, show (⟨#[40, 40]⟩ : ByteArray).size = 2 from rfl, show (⟨#[10, 41, 32]⟩ : ByteArray).size = 3 from rfl, show (⟨#[32, 40]⟩ : ByteArray).size = 2 from rfl, show (⟨#[10, 41, 41]⟩ : ByteArray).size = 3 from rfl]; omega
  have u8 : ¬ 9223372036854775807 < 2 + a.size + 3 + o.size + 2 := by omega
  have y8 : ¬ 9223372036854775807 < (((((⟨#[40, 40]⟩ : ByteArray) ++ (a : ByteArray)) ++ (⟨#[10, 41, 32]⟩ : ByteArray)) ++ (o : ByteArray))).size + 2 := by simp only [ByteArray.size_append, show (⟨#[10]⟩ : ByteArray).size = 1 from rfl, show (⟨#[32]⟩ : ByteArray).size = 1 from rfl, show (⟨#[40, 40]⟩ : ByteArray).size = 2 from rfl, show (⟨#[10, 41, 32]⟩ : ByteArray).size = 3 from rfl, show (⟨#[32, 40]⟩ : ByteArray).size = 2 from rfl, show (⟨#[10, 41, 41]⟩ : ByteArray).size = 3 from rfl]; omega
  have u9 : ¬ 9223372036854775807 < 2 + a.size + 3 + o.size + 2 + b.size := by omega
  have y9 : ¬ 9223372036854775807 < ((((((⟨#[40, 40]⟩ : ByteArray) ++ (a : ByteArray)) ++ (⟨#[10, 41, 32]⟩ : ByteArray)) ++ (o : ByteArray)) ++ (⟨#[32, 40]⟩ : ByteArray))).size + b.size := by simp only [ByteArray.size_append, show (⟨#[10]⟩ : ByteArray).size = 1 from rfl, show (⟨#[32]⟩ : ByteArray).size = 1 from rfl, show (⟨#[40, 40]⟩ : ByteArray).size = 2 from rfl, show (⟨#[10, 41, 32]⟩ : ByteArray).size = 3 from rfl, show (⟨#[32, 40]⟩ : ByteArray).size = 2 from rfl, show (⟨#[10, 41, 41]⟩ : ByteArray).size = 3 from rfl]; omega
  have u10 : ¬ 9223372036854775807 < 2 + a.size + 3 + o.size + 2 + b.size + 3 := by omega
  have y10 : ¬ 9223372036854775807 < (((((((⟨#[40, 40]⟩ : ByteArray) ++ (a : ByteArray)) ++ (⟨#[10, 41, 32]⟩ : ByteArray)) ++ (o : ByteArray)) ++ (⟨#[32, 40]⟩ : ByteArray)) ++ (b : ByteArray))).size + 3 := by simp only [ByteArray.size_append, show (⟨#[10]⟩ : ByteArray).size = 1 from rfl, show (⟨#[32]⟩ : ByteArray).size = 1 from rfl, show (⟨#[40, 40]⟩ : ByteArray).size = 2 from rfl, show (⟨#[10, 41, 32]⟩ : ByteArray).size = 3 from rfl, show (⟨#[32, 40]⟩ : ByteArray).size = 2 from rfl, show (⟨#[10, 41, 41]⟩ : ByteArray).size = 3 from rfl]; omega
  have HE := Lib.hid h; have HP := Lib.hid hp; have HQ := Lib.hid hq; have HM := Lib.hid m1; have H2 := Lib.hid (And.intro m2 m3); have H4 := Lib.hid m4; clear h hp hq m1 m2 m3 m4 hz hoz hmem
  go_enter Tryz.func9, Tryz.ntmps9
  go_wp2_with (go_at_call 26; refine (ent_ok HP.out (HE.out.expr (Below.refl _ _) _)).mono ?_; rintro e w1 ⟨k1, a1, t1, n1, o1, l1, c1, q1, hq1, rfl, hb, hx⟩; refine Hid.out ?_)
  have hA : Below w1.heap.size w1 (w1.alloc (Obj.cells #[.int .i64 k1, .int .i64 a1, .string t1, .int .i64 n1, .slice o1 l1 c1] 25)) := (Below.refl _ _).alloc (Nat.le_refl _) _
  have B1 := Lib.hid (Below.chain (Below.refl _ _) (Below.chain hb hA))
  have X1_1 := Lib.hid (Bx5.new w1 (.int .i64 k1) (.int .i64 a1) (.string t1) (.int .i64 n1) (.slice o1 l1 c1))
  have S1_1 := Lib.hid (hx.below hA)
  clear hA hb hx
  refine Lib.hid ?_
  go_wp2_with (go_at_call 26; refine (ent_ok HQ.out (HE.out.expr B1.out _)).mono ?_; rintro e w2 ⟨k2, a2, t2, n2, o2, l2, c2, q2, hq2, rfl, hb, hx⟩; refine Hid.out ?_)
  have hA : Below w2.heap.size w2 (w2.alloc (Obj.cells #[.int .i64 k2, .int .i64 a2, .string t2, .int .i64 n2, .slice o2 l2 c2] 25)) := (Below.refl _ _).alloc (Nat.le_refl _) _
  have B2 := Lib.hid (Below.chain B1.out (Below.chain hb hA))
  have X1_2 := Lib.hid (X1_1.out.below (Below.chain hb hA))
  clear X1_1
  have S1_2 := Lib.hid (S1_1.out.below (Below.chain hb hA))
  clear S1_1
  have X2_2 := Lib.hid (Bx5.new w2 (.int .i64 k2) (.int .i64 a2) (.string t2) (.int .i64 n2) (.slice o2 l2 c2))
  have S2_2 := Lib.hid (hx.below hA)
  clear hA hb hx
  refine Lib.hid ?_
  have hL := (Below.refl (w2.alloc (Obj.cells #[.int .i64 k2, .int .i64 a2, .string t2, .int .i64 n2, .slice o2 l2 c2] 25)).heap.size (w2.alloc (Obj.cells #[.int .i64 k2, .int .i64 a2, .string t2, .int .i64 n2, .slice o2 l2 c2] 25))).alloc (Nat.le_refl _) (Obj.cells #[.string ⟨#[61]⟩, .string ⟨#[60, 61]⟩, .string ⟨#[60]⟩, .string ⟨#[33, 61]⟩, .string ⟨#[62]⟩, .string ⟨#[62, 61]⟩] 9)
  have BL := Lib.hid (Below.chain B2.out hL)
  have X1_9 := Lib.hid (X1_2.out.below hL)
  clear X1_2
  have S1_9 := Lib.hid (S1_2.out.below hL)
  clear S1_2
  have X2_9 := Lib.hid (X2_2.out.below hL)
  clear X2_2
  have S2_9 := Lib.hid (S2_2.out.below hL)
  clear S2_2
  clear hL
  go_wp2_with (go_at_call 19; refine (ent_ok HM.out (HE.out.cond BL.out _)).mono ?_; rintro e w3 ⟨k3, a3, t3, n3, o3, l3, c3, q3, hq3, rfl, hb, hx⟩; refine Hid.out ?_)
  have hA : Below w3.heap.size w3 (w3.alloc (Obj.cells #[.int .i64 k3, .int .i64 a3, .string t3, .int .i64 n3, .slice o3 l3 c3] 25)) := (Below.refl _ _).alloc (Nat.le_refl _) _
  have B3 := Lib.hid (Below.chain BL.out (Below.chain hb hA))
  have X1_3 := Lib.hid (X1_9.out.below (Below.chain hb hA))
  clear X1_9
  have S1_3 := Lib.hid (S1_9.out.below (Below.chain hb hA))
  clear S1_9
  have X2_3 := Lib.hid (X2_9.out.below (Below.chain hb hA))
  clear X2_9
  have S2_3 := Lib.hid (S2_9.out.below (Below.chain hb hA))
  clear S2_9
  have X3_3 := Lib.hid (Bx5.new w3 (.int .i64 k3) (.int .i64 a3) (.string t3) (.int .i64 n3) (.slice o3 l3 c3))
  have S3_3 := Lib.hid (hx.below hA)
  clear hA hb hx
  refine Lib.hid ?_
  go_wp2_with (go_at_call 19; refine (ent_ok H4.out (HE.out.cond B3.out _)).mono ?_; rintro e w4 ⟨k4, a4, t4, n4, o4, l4, c4, q4, hq4, rfl, hb, hx⟩; refine Hid.out ?_)
  have hA : Below w4.heap.size w4 (w4.alloc (Obj.cells #[.int .i64 k4, .int .i64 a4, .string t4, .int .i64 n4, .slice o4 l4 c4] 25)) := (Below.refl _ _).alloc (Nat.le_refl _) _
  have B4 := Lib.hid (Below.chain B3.out (Below.chain hb hA))
  have X1_4 := Lib.hid (X1_3.out.below (Below.chain hb hA))
  clear X1_3
  have S1_4 := Lib.hid (S1_3.out.below (Below.chain hb hA))
  clear S1_3
  have X2_4 := Lib.hid (X2_3.out.below (Below.chain hb hA))
  clear X2_3
  have S2_4 := Lib.hid (S2_3.out.below (Below.chain hb hA))
  clear S2_3
  have X3_4 := Lib.hid (X3_3.out.below (Below.chain hb hA))
  clear X3_3
  have S3_4 := Lib.hid (S3_3.out.below (Below.chain hb hA))
  clear S3_3
  have X4_4 := Lib.hid (Bx5.new w4 (.int .i64 k4) (.int .i64 a4) (.string t4) (.int .i64 n4) (.slice o4 l4 c4))
  have S4_4 := Lib.hid (hx.below hA)
  clear hA hb hx
  refine Lib.hid ?_
  cases hq3
  obtain ⟨kv, ev, hk⟩ := synAt_mk.mp S3_4.out
  simp only [Value.agg.injEq, Array.mk.injEq, List.cons.injEq, and_true, true_and] at ev
  rw [← ev] at hk
  obtain ⟨b9, c9, e9, hs9⟩ := kids_cons hk
  cases e9
  clear hk ev
  obtain ⟨ka, aa, ta, na, oa, la, ca, qa, -, f0, f1, f2, f3, f4, hA, hr⟩ := row_head hs9.row
  obtain ⟨kb, ab, tb, nb, ob, lb, cb, qb, -, f5, f6, f7, f8, f9, hB, -⟩ := row_head hr
  have r0 : (w4.alloc (Obj.cells #[.int .i64 k4, .int .i64 a4, .string t4, .int .i64 n4, .slice o4 l4 c4] 25)).cell? ⟨b9, 0, none⟩ = _ := f0
  have r1 : (w4.alloc (Obj.cells #[.int .i64 k4, .int .i64 a4, .string t4, .int .i64 n4, .slice o4 l4 c4] 25)).cell? ⟨b9, 1, none⟩ = _ := f1
  have r2 : (w4.alloc (Obj.cells #[.int .i64 k4, .int .i64 a4, .string t4, .int .i64 n4, .slice o4 l4 c4] 25)).cell? ⟨b9, 2, none⟩ = _ := f2
  have r3 : (w4.alloc (Obj.cells #[.int .i64 k4, .int .i64 a4, .string t4, .int .i64 n4, .slice o4 l4 c4] 25)).cell? ⟨b9, 3, none⟩ = _ := f3
  have r4 : (w4.alloc (Obj.cells #[.int .i64 k4, .int .i64 a4, .string t4, .int .i64 n4, .slice o4 l4 c4] 25)).cell? ⟨b9, 4, none⟩ = _ := f4
  have r5 : (w4.alloc (Obj.cells #[.int .i64 k4, .int .i64 a4, .string t4, .int .i64 n4, .slice o4 l4 c4] 25)).cell? ⟨b9, 5, none⟩ = _ := f5
  have r6 : (w4.alloc (Obj.cells #[.int .i64 k4, .int .i64 a4, .string t4, .int .i64 n4, .slice o4 l4 c4] 25)).cell? ⟨b9, 6, none⟩ = _ := f6
  have r7 : (w4.alloc (Obj.cells #[.int .i64 k4, .int .i64 a4, .string t4, .int .i64 n4, .slice o4 l4 c4] 25)).cell? ⟨b9, 7, none⟩ = _ := f7
  have r8 : (w4.alloc (Obj.cells #[.int .i64 k4, .int .i64 a4, .string t4, .int .i64 n4, .slice o4 l4 c4] 25)).cell? ⟨b9, 8, none⟩ = _ := f8
  have r9 : (w4.alloc (Obj.cells #[.int .i64 k4, .int .i64 a4, .string t4, .int .i64 n4, .slice o4 l4 c4] 25)).cell? ⟨b9, 9, none⟩ = _ := f9
  have K1 := Lib.hid (fun d os => same_re S3_4.out S4_4.out (eq_of_bare H5.out) d os)
  have K2 := Lib.hid (fun d os => same_re hA S1_4.out (eq_of_bare H2.out.1) d os)
  have K3 := Lib.hid (fun d os => same_re hB S2_4.out (eq_of_bare H2.out.2) d os)
  have K4 := Lib.hid (fun d os => awake_re B4.out HE.out.tab HE.out.ev d os)
  clear f0 f1 f2 f3 f4 f5 f6 f7 f8 f9 hA hB hr hs9 u1 u2 u3 u4 u5 u6 u7 u8 u9 u10 y1 y2 y3 y4 y5 y6 y7 y8 y9 y10 hsg1 hsg2 hsg3
  go_wp2_with fail
  have gX1_40 := fun d os => cell_regrown X1_4.out.c0 d os
  have gX1_41 := fun d os => cell_regrown X1_4.out.c1 d os
  have gX1_42 := fun d os => cell_regrown X1_4.out.c2 d os
  have gX1_43 := fun d os => cell_regrown X1_4.out.c3 d os
  have gX1_44 := fun d os => cell_regrown X1_4.out.c4 d os
  have gX2_40 := fun d os => cell_regrown X2_4.out.c0 d os
  have gX2_41 := fun d os => cell_regrown X2_4.out.c1 d os
  have gX2_42 := fun d os => cell_regrown X2_4.out.c2 d os
  have gX2_43 := fun d os => cell_regrown X2_4.out.c3 d os
  have gX2_44 := fun d os => cell_regrown X2_4.out.c4 d os
  have gX3_40 := fun d os => cell_regrown X3_4.out.c0 d os
  have gX3_41 := fun d os => cell_regrown X3_4.out.c1 d os
  have gX3_42 := fun d os => cell_regrown X3_4.out.c2 d os
  have gX3_43 := fun d os => cell_regrown X3_4.out.c3 d os
  have gX3_44 := fun d os => cell_regrown X3_4.out.c4 d os
  have gX4_40 := fun d os => cell_regrown X4_4.out.c0 d os
  have gX4_41 := fun d os => cell_regrown X4_4.out.c1 d os
  have gX4_42 := fun d os => cell_regrown X4_4.out.c2 d os
  have gX4_43 := fun d os => cell_regrown X4_4.out.c3 d os
  have gX4_44 := fun d os => cell_regrown X4_4.out.c4 d os
  have gr0 := fun d os => cell_regrown r0 d os
  have gr1 := fun d os => cell_regrown r1 d os
  have gr2 := fun d os => cell_regrown r2 d os
  have gr3 := fun d os => cell_regrown r3 d os
  have gr4 := fun d os => cell_regrown r4 d os
  have gr5 := fun d os => cell_regrown r5 d os
  have gr6 := fun d os => cell_regrown r6 d os
  have gr7 := fun d os => cell_regrown r7 d os
  have gr8 := fun d os => cell_regrown r8 d os
  have gr9 := fun d os => cell_regrown r9 d os
  refine wp_region_quiet_below (by kernel_rfl) (by kernel_rfl) ?_
  repeat (quiet_step (first | exact K1.out _ _ | exact K2.out _ _ | exact K3.out _ _ | exact K4.out _ _))
  refine wpQuiet_nil ?_
  intro _ hw'
  obtain ⟨⟨dq, osq⟩, hw''⟩ := hw'
  subst hw''
  go_wp2
  go_ret
  exact ⟨rfl, Below.chain B4.out (below_regrown _ dq osq)⟩
theorem lparens_walk (a b : ByteArray) (n : Nat) (hn : n < 256) (w : World) (h : Env w) :
    Calls Tryz.prog 9 #[.string a, .string b, .int .u8 (n : Int)] w fun e w' => e = .returned (.bool true) ∧ Below w.heap.size w w' := by
  cases g1 : decide ((300 : Int) < (a.size : Int)) with
  | true => exact lpar_big1 a b n hn g1 w h
  | false =>
    cases g2 : decide ((300 : Int) < (b.size : Int)) with
    | true => exact lpar_big2 a b n hn g1 g2 w h
    | false =>
      rcases pAns_cases 3 a with ⟨x, hp⟩ | ⟨a1, c1, hp⟩
      · rcases pAns_cases 3 b with ⟨y, hq⟩ | ⟨a2, c2, hq⟩
        · have hj : n % 6 < 6 := Nat.mod_lt _ (by decide)
          have hz : a.size + b.size ≤ 600 := by
            rw [decide_eq_false_iff_not] at g1 g2
            omega
          obtain ⟨p, at', m1, -, m4⟩ := parens_math (sg_mem (n % 6) hj).1 hz hp hq
          rcases m4 with ⟨c, m4⟩ | ⟨z, m4, m5⟩
          · exact lpar_deep a b n hn g1 g2 x y hp hq (fun o ho => by subst ho; exact ⟨c, m4⟩) w h
          · exact lpar_good a b n hn g1 g2 x y z hp hq (fun o at2 p2 ho he => by
              subst ho
              rw [m1] at he
              cases he
              exact ⟨m4, m5⟩) w h
        · exact lpar_bad3 a b n hn g1 g2 x hp a2 c2 hq w h
      · rcases pAns_cases 3 b with ⟨y, hq⟩ | ⟨a2, c2, hq⟩
        · exact lpar_bad1 a b n hn g1 g2 a1 c1 hp y hq w h
        · exact lpar_bad2 a b n hn g1 g2 a1 c1 hp a2 c2 hq w h
end Go.Proofs.YtdibcllakkjegaaGreatDoor

