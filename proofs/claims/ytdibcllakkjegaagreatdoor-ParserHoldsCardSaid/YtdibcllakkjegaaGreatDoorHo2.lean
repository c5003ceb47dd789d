import Derived.Test.YtdibcllakkjegaaGreatDoorCut32
import Derived.Test.YtdibcllakkjegaaGreatDoorHo1
import Derived.Test.YtdibcllakkjegaaGreatDoorCut29
import Derived.Test.YtdibcllakkjegaaGreatDoorCut30
import Derived.Lib.QuietBelow

set_option linter.unusedVariables false
/-
  parser: mathematics of the laws ParserSpaces, ParserJoins, ParserParens, ParserHolds.
-/
set_option linter.unusedSimpArgs false
set_option linter.unusedVariables false
namespace Go.Proofs.YtdibcllakkjegaaGreatDoor
open Go Go.Proofs Go.RowKit

theorem nt_split {V : List Tk} {e : Int} {s : ByteArray} (h : (scR s).1 = V ++ [tE e]) : (scR s).1.map nt = V.map nt ++ [(3, [])] := by rw [h, List.map_append]; rfl
/-- An entry reads a text whose tokens are those of a list, up to offsets. -/
theorem pAns_list {k : Nat} {s : ByteArray} {L : List Tk} {x : Syn} (hz : s.size ≤ 65536) (hB : B (bytes s) = some (L.map nt)) (h : pTk k L = .ok x) : ∃ y, pAns k s = .ok y ∧ bareS x = bareS y := by
  obtain ⟨h1, h2⟩ := scR_B hz hB
  obtain ⟨y, e1, e2⟩ := pTk_sim (sim_of h2.symm) h
  exact ⟨y, by rw [pAns_tk h1, e1], e2⟩
theorem pAns_deep {k : Nat} {s : ByteArray} {L : List Tk} {f : Nat} {a : Int} (hz : s.size ≤ 65536) (hB : B (bytes s) = some (L.map nt)) (h : pRead f (entW k L) 0 L = .error (a, 12)) : ∃ b, pAns k s = .error (b, 12) := by
  obtain ⟨h1, h2⟩ := scR_B hz hB
  have e : pTk k L = .error (a, 12) := by unfold pTk; rw [pLim_of h (fun q => by cases q)]; rfl
  obtain ⟨b, hb⟩ := pTk_sim_err (c := 12) (by decide) (sim_of h2.symm) e ⟨f, _, h, rfl⟩
  exact ⟨b, by rw [pAns_tk h1, hb]⟩
theorem gap_spaces : ∀ g ∈ [[32], [10], [9, 13, 10, 32], [32, 35, 32, 99, 59, 32, 125, 123, 32, 10], [10, 35, 10]], (∀ z, skM false (g ++ z) = g.length + skM false z) ∧ ∃ c m, g = c :: m ∧ wdB c.toNat = false ∧ c ≠ 61 := by
  have c1 : ∀ z, skM false (10 :: z) = 1 + skM false z := fun z => by rw [skF, if_pos (by decide)]
  have c2 : ∀ z, skM false (32 :: z) = 1 + skM false z := fun z => by rw [skF, if_pos (by decide)]
  have c3 : ∀ z, skM false (9 :: z) = 1 + skM false z := fun z => by rw [skF, if_pos (by decide)]
  have c4 : ∀ z, skM false (13 :: z) = 1 + skM false z := fun z => by rw [skF, if_pos (by decide)]
  have c5 : ∀ z, skM false (35 :: z) = 1 + skM true z := fun z => by rw [skF, if_neg (by decide), if_pos (by decide)]
  have c6 : ∀ z, skM true (10 :: z) = 1 + skM false z := fun z => by rw [skT, if_pos rfl]
  have c7 : ∀ (c : UInt8) z, c ≠ 10 → skM true (c :: z) = 1 + skM true z := fun c z h => by rw [skT, if_neg h]
  intro g hg
  simp only [List.mem_cons, List.not_mem_nil, or_false] at hg
  rcases hg with rfl | rfl | rfl | rfl | rfl
  · exact ⟨fun z => c2 z, 32, [], rfl, by decide, by decide⟩
  · exact ⟨fun z => c1 z, 10, [], rfl, by decide, by decide⟩
  · refine ⟨fun z => ?_, 9, [13, 10, 32], rfl, by decide, by decide⟩
    show skM false (9 :: 13 :: 10 :: 32 :: z) = 4 + _
    rw [c3, c4, c1, c2]; omega
  · refine ⟨fun z => ?_, 32, [35, 32, 99, 59, 32, 125, 123, 32, 10], rfl, by decide, by decide⟩
    show skM false (32 :: 35 :: 32 :: 99 :: 59 :: 32 :: 125 :: 123 :: 32 :: 10 :: z) = 10 + _
    rw [c2, c5, c7 _ _ (by decide), c7 _ _ (by decide), c7 _ _ (by decide), c7 _ _ (by decide), c7 _ _ (by decide), c7 _ _ (by decide), c7 _ _ (by decide), c6]; omega
  · refine ⟨fun z => ?_, 10, [35, 10], rfl, by decide, by decide⟩
    show skM false (10 :: 35 :: 10 :: z) = 3 + _
    rw [c1, c5, c6]; omega
abbrev tS (l : List UInt8) : Tk := ⟨2, str l, 0⟩
abbrev tW (l : List UInt8) : Tk := ⟨0, str l, 0⟩
theorem nt_S (l : List UInt8) : nt (tS l) = (2, l) := by show (2, bytes (str l)) = _; rw [bytes_str]
theorem nt_W (l : List UInt8) : nt (tW l) = (0, l) := by show (0, bytes (str l)) = _; rw [bytes_str]
theorem blank1 (z : List UInt8) : skM false ([32] ++ z) = ([32] : List UInt8).length + skM false z := by
  show skM false (32 :: z) = 1 + _
  rw [skF, if_pos (by decide)]
theorem B_sp1 (z : List UInt8) : B (32 :: z) = B z := B_gap (g := [32]) blank1 z
theorem ok_of {x : List UInt8} (h : (decide (x ≠ []) && (decide (ter x = 0) && decide (tn x = x.length))) = true) : okX x := by
  simp only [Bool.and_eq_true, decide_eq_true_eq] at h
  exact h
theorem B_40 (m : List UInt8) : B (40 :: m) = (B m).map ((2, [40]) :: ·) := B_one (ok_of (by decide +kernel)) (by decide +kernel) (by decide +kernel) (by decide +kernel) m
theorem B_41 (m : List UInt8) : B (41 :: m) = (B m).map ((2, [41]) :: ·) := B_one (ok_of (by decide +kernel)) (by decide +kernel) (by decide +kernel) (by decide +kernel) m
theorem B_59 (m : List UInt8) : B (59 :: m) = (B m).map ((2, [59]) :: ·) := B_one (ok_of (by decide +kernel)) (by decide +kernel) (by decide +kernel) (by decide +kernel) m
theorem B_123 (m : List UInt8) : B (123 :: m) = (B m).map ((2, [123]) :: ·) := B_one (ok_of (by decide +kernel)) (by decide +kernel) (by decide +kernel) (by decide +kernel) m
theorem B_125 (m : List UInt8) : B (125 :: m) = (B m).map ((2, [125]) :: ·) := B_one (ok_of (by decide +kernel)) (by decide +kernel) (by decide +kernel) (by decide +kernel) m
theorem B_scan {s : ByteArray} {V : List Tk} {e : Int} (h : (scR s).2.2 = 0) (hV : (scR s).1 = V ++ [tE e]) : B (bytes s) = some (V.map nt ++ [(3, [])]) := by rw [B_scR h, nt_split hV]
theorem inr_of {m : Nat} {t : Tk} (l : List UInt8) (ht : bytes t.t = l) (h : ∀ i, m ≤ i → (pOps i).contains l = false) (h46 : (l == [46]) = false) : Inr m t := ⟨fun i hi => by rw [ht]; exact h i hi, by rw [ht]; exact h46⟩
theorem ops_low {l : List UInt8} (h : ∀ i, i < 7 → (pOps i).contains l = false) : ∀ i, 0 ≤ i → (pOps i).contains l = false := fun i _ => by
  by_cases hi : i < 7
  · exact h i hi
  · unfold pOps
    split <;> first | omega | rfl
theorem inr_sign {l : List UInt8} (h : ∀ i, i < 7 → (pOps i).contains l = false) (h46 : (l == [46]) = false) (m : Nat) (k a : Int) : Inr m ⟨k, str l, a⟩ := inr_of l (bytes_str l) (fun i _ => ops_low h i (Nat.zero_le _)) h46
theorem low7 {P : Nat → Prop} (h0 : P 0) (h1 : P 1) (h2 : P 2) (h3 : P 3) (h4 : P 4) (h5 : P 5) (h6 : P 6) : ∀ i, i < 7 → P i := fun i hi => by
  rcases (show i = 0 ∨ i = 1 ∨ i = 2 ∨ i = 3 ∨ i = 4 ∨ i = 5 ∨ i = 6 by omega) with rfl | rfl | rfl | rfl | rfl | rfl | rfl <;> assumption
theorem inr41 (m : Nat) : Inr m (tS [41]) := inr_sign (low7 rfl rfl rfl rfl rfl rfl rfl) rfl m 2 0
theorem inr59 (m : Nat) : Inr m (tS [59]) := inr_sign (low7 rfl rfl rfl rfl rfl rfl rfl) rfl m 2 0
theorem inrE (m : Nat) (a : Int) : Inr m (tE a) := inr_sign (l := []) (low7 rfl rfl rfl rfl rfl rfl rfl) rfl m 3 a
theorem op41 (i : Nat) (r : List Tk) : pOp i (tS [41] :: r) = false := (inr41 0).op (S' := tS [41] :: r) (Nat.zero_le i)
theorem op59 (i : Nat) (r : List Tk) : pOp i (tS [59] :: r) = false := (inr59 0).op (S' := tS [59] :: r) (Nat.zero_le i)
theorem num_not {V : List Tk} {e : Int} (hok : ∀ t ∈ V, okX (bytes t.t) ∧ t.k = tkd (bytes t.t)) : (pHd (V ++ [tE e])).k = 1 → bytes (pHd (V ++ [tE e])).t ≠ [110, 111, 116] := by
  cases V with
  | nil => intro h; cases h
  | cons v V =>
    intro h q
    have h2 := (hok v (by simp)).2
    have h' : v.k = 1 := h
    have q' : bytes v.t = [110, 111, 116] := q
    rw [q', h'] at h2
    revert h2
    decide +kernel
/-- An expression in parentheses, read at some level. -/
theorem par4 {f d : Nat} {V : List Tk} {e : Int} {xs : List Syn} {S : List Tk} (hok : ∀ t ∈ V, okX (bytes t.t) ∧ t.k = tkd (bytes t.t)) (h : pRead f (.lvl 4) (d + 1) (V ++ [tE e]) = .ok (xs, [tE e])) (h64 : d ≠ 64) (hS : S ≠ []) (hI : Inr 4 (pHd S)) :
    ∃ g, pRead g (.lvl 6) d (tS [40] :: (V ++ tS [41] :: S)) = .ok (xs, S) := by
  have hn := no_not f 4 (d + 1) _ _ (num_not hok) (by omega) h
  have h1 := lvl_in (S' := tS [41] :: S) (Nat.le_refl 4) (by simp) (inr41 4) h
  have hn' : pOp 2 (V ++ tS [41] :: S) = false := by
    cases V with
    | nil => exact op41 2 S
    | cons v V => exact hn
  have h2 := up3 (up4 h1 (op41 3 S)) hn' (op41 1 S) (op41 0 S)
  have h3 := par7 (t := tS [40]) (by show bytes (str [40]) = _; rw [bytes_str]) (by decide) (by simp) h64 h2 (by show (bytes (str [41]) == [41]) = true; rw [bytes_str]; rfl)
  have ht : pTl (tS [41] :: S) = S := by obtain ⟨u, S, rfl⟩ := List.exists_cons_of_ne_nil hS; rfl
  rw [ht] at h3
  exact ⟨_, up7 h3 (by show ([[45]] : List (List UInt8)).contains (bytes (str [40])) = false; rw [bytes_str]; rfl)⟩
end Go.Proofs.YtdibcllakkjegaaGreatDoor

/-
  surveyorlaw09: words for the walks of the laws.
-/
set_option linter.unusedSimpArgs false
set_option linter.unusedVariables false
namespace Go.Proofs.YtdibcllakkjegaaGreatDoor
open Go Go.Proofs Go.RowKit Go.Sort

theorem ent_bad {k : Nat} {s : ByteArray} {a : Int} {c : Nat} {w : World} {f : Nat} {args : Array Value} (hp : pAns k s = .error (a, c)) (h : Calls Tryz.prog f args w (Ans k s w)) : Calls Tryz.prog f args w (EntBad a c w) := by
  refine h.mono ?_
  rintro e w' ⟨k4, a4, t4, n4, o4, l4, c4, a, c, rfl, hb, hx⟩
  rcases hx with ⟨y, h1, -⟩ | ⟨h1, -, hv⟩
  · rw [hp] at h1; cases h1
  · rw [hp] at h1
    cases h1
    rw [hv]
    exact ⟨rfl, hb⟩
theorem row_head {lo : Nat} {W : World} {x : Syn} {r : List Syn} {b o : Nat} (h : rowAt lo W (x :: r) b o) : ∃ k a t n o2 l2 c2 q, x = .mk k a t n q ∧
    W.cell? ⟨b, o, none⟩ = some (.int .i64 k) ∧ W.cell? ⟨b, o + 1, none⟩ = some (.int .i64 a) ∧ W.cell? ⟨b, o + 2, none⟩ = some (.string t) ∧ W.cell? ⟨b, o + 3, none⟩ = some (.int .i64 n) ∧ W.cell? ⟨b, o + 4, none⟩ = some (.slice o2 l2 c2) ∧
    synAt lo W x (.agg #[.int .i64 k, .int .i64 a, .string t, .int .i64 n, .slice o2 l2 c2]) ∧ rowAt lo W r b (o + 5) := by
  rw [rowAt] at h
  obtain ⟨⟨v0, v1, v2, v3, v4, c0, c1, c2, c3, c4, hx⟩, hr⟩ := h
  obtain ⟨k, a, t, n, o2, l2, cc, q, e1, e2, -⟩ := hx.shape
  simp only [Value.agg.injEq, Array.mk.injEq, List.cons.injEq, and_true] at e2
  obtain ⟨rfl, rfl, rfl, rfl, rfl⟩ := e2
  exact ⟨k, a, t, n, o2, l2, cc, q, e1, c0, c1, c2, c3, c4, hx, hr⟩
/-- Trees are compared in a world that has grown. -/
theorem same_re {lo lo2 : Nat} {W : World} {x y : Syn} {v u : Value} (hx : synAt lo W x v) (hy : synAt lo2 W y u) {b : Bool} (he : eqS false x y = b) (d : Nat) (os : Array Obj) :
    Calls Tryz.prog 23 #[v, u] (grow (redrawn W d) os) fun e w'' => e = .returned (.bool b) ∧ ∃ p : Regrown, w'' = grow (redrawn W p.d) p.os := by
  have hb := below_regrown W d os
  have h := same_any9 x y lo lo2 v u _ (hx.below hb) (hy.below hb)
  rw [he] at h
  exact Calls.regrown_of h
theorem awake_re {w W : World} (hB : Below w.heap.size w W) (ht : Lib.TabBelow Tryz.prog w.heap.size w "surveyor/lexer.classes" .u8 clsTab) (hev : EvAt w) (d : Nat) (os : Array Obj) :
    Calls Tryz.prog 12 #[] (grow (redrawn W d) os) fun e w'' => e = .returned (.bool true) ∧ ∃ p : Regrown, w'' = grow (redrawn W p.d) p.os := by
  have hb := Below.chain hB (below_regrown W d os)
  exact Calls.regrown_of (awake09 _ (fun X hX => ht X (Below.chain hb hX)) (hev.below hb))
theorem Env.expr {w W : World} (h : Env w) (hB : Below w.heap.size w W) (s : ByteArray) : Calls Tryz.prog 26 #[.string s] W (Ans 3 s W) := pExpr s W (h.at hB).tab (h.at hB).ev
end Go.Proofs.YtdibcllakkjegaaGreatDoor

/-
  parser: mathematics of the law ParserHolds.
-/
set_option linter.unusedSimpArgs false
set_option linter.unusedVariables false
namespace Go.Proofs.YtdibcllakkjegaaGreatDoor
open Go Go.Proofs Go.RowKit

theorem is_S (s x : List UInt8) (l : List Tk) : pIs s (tS x :: l) = (x == s) := by show (bytes (str x) == s) = _; rw [bytes_str]
theorem is_W (s x : List UInt8) (l : List Tk) : pIs s (tW x :: l) = (x == s) := by show (bytes (str x) == s) = _; rw [bytes_str]
theorem named_S (x : List UInt8) (l : List Tk) : pNamed (pHd (tS x :: l)) = false := rfl
theorem named_W {x : List UInt8} (l : List Tk) {b : Bool} (h : decide (nmE (str x) = 0) = b) : pNamed (pHd (tW x :: l)) = b := by
  show (decide ((0 : Int) = 0) && decide (nmE (str x) = 0)) = b
  rw [h]; rfl
theorem tl_two (a : Tk) {l : List Tk} (h : l ≠ []) : pTl (a :: l) = l := by obtain ⟨u, l, rfl⟩ := List.exists_cons_of_ne_nil h; rfl
theorem need_S {s : List UInt8} {l : List Tk} (h : l ≠ []) : pNeed s (tS s :: l) = .ok l := by
  unfold pNeed
  rw [is_S, if_pos (by simp), tl_two _ h]
theorem need_W {s : List UInt8} {l : List Tk} (h : l ≠ []) : pNeed s (tW s :: l) = .ok l := by
  unfold pNeed
  rw [is_W, if_pos (by simp), tl_two _ h]
theorem name_W {x : List UInt8} {l : List Tk} (hl : l ≠ []) (h : decide (nmE (str x) = 0) = true) : pName (tW x :: l) = .ok (tW x, l) := by
  unfold pName
  rw [named_W l h, if_pos rfl, tl_two _ hl]
  rfl
theorem need_end {s : List UInt8} {a : Int} : pNeed s [tS s, tE a] = .ok [tE a] := need_S (by simp)
/-- A procedure p without parameters. -/
theorem proc_at {f d : Nat} {M r : List Tk} {xb : List Syn} (hb : pRead f .body d (tS [123] :: M) = .ok (xb, r)) :
    pRead (f + 1) .proc d (tW wProc :: tW [112] :: tS [40] :: tS [41] :: tS [123] :: M) = .ok ([.mk 2 0 (str [112]) 0 ([.mk 3 0 ⟨#[]⟩ 0 [], .mk 3 0 ⟨#[]⟩ 0 [], .mk 5 0 ⟨#[]⟩ 0 [], .mk 5 0 ⟨#[]⟩ 0 []] ++ xb)], r) := by
  rw [pRead]
  dsimp only
  rw [is_W, show (wProc == wImport) = false by decide, if_neg Bool.false_ne_true, need_W (by simp), ok_ebind, name_W (by simp) (by decide +kernel), ok_ebind]
  dsimp only
  rw [need_S (by simp), ok_ebind, is_S, show (([41] : List UInt8) == [41]) = true by decide, if_pos rfl, ok_ebind]
  dsimp only
  rw [need_S (by simp), ok_ebind, is_S, show (([123] : List UInt8) == wReturns) = false by decide, if_neg Bool.false_ne_true, ok_ebind]
  dsimp only
  rw [is_S, show (([123] : List UInt8) == wRequires) = false by decide, if_neg Bool.false_ne_true, ok_ebind]
  dsimp only
  rw [is_S, show (([123] : List UInt8) == wEnsures) = false by decide, if_neg Bool.false_ne_true, ok_ebind]
  dsimp only
  rw [hb, ok_ebind]
  rfl
theorem body_at {f d : Nat} {M : List Tk} {a : Int} {xs : List Syn} {w : List UInt8} (hd : d ≠ 64) (h1 : (w == wVar) = false) (h2 : (w == wArray) = false) (hs : pRead f .stmts (d + 1) (tW w :: M) = .ok (xs, [tS [125], tE a])) :
    pRead (f + 1) .body d (tS [123] :: tW w :: M) = .ok ([.mk 6 0 ⟨#[]⟩ 0 xs], [tE a]) := by
  have hdec : pRead f .decls (d + 1) (tW w :: M) = .ok ([], tW w :: M) := by
    cases f with
    | zero => rw [pRead] at hs; cases hs
    | succ f => rw [pRead, is_W, h1, if_neg Bool.false_ne_true, is_W, h2, if_neg Bool.false_ne_true]
  rw [pRead, need_S (by simp), ok_ebind, if_neg hd, hdec, ok_ebind]
  dsimp only
  rw [hs, ok_ebind]
  dsimp only
  rw [need_end, ok_ebind]
  rfl
theorem stmts_end {f d : Nat} {a : Int} : pRead (f + 1) .stmts d [tS [125], tE a] = .ok ([], [tS [125], tE a]) := by
  rw [pRead, is_S, is_S, is_S, is_S, named_S]
  rw [if_neg (by decide)]
theorem prog_at {f d : Nat} {b a : Int} {M : List Tk} {xs : List Syn} (h : pRead f .proc d (tW wProc :: M) = .ok (xs, [tE a])) : pRead (f + 1) (.program b) d (tW wProc :: M) = .ok (xs, [tE a]) := by
  have he : ∀ g, pRead (g + 1) (.program b) d [tE a] = .ok ([], [tE a]) := fun g => by
    rw [pRead, is_end (by decide), if_neg Bool.false_ne_true, is_end (by decide), is_end (by decide), if_neg (by decide)]
  rw [pRead, is_W, show (wProc == wRecord) = false by decide, if_neg Bool.false_ne_true, is_W, is_W, if_pos (.inl (by decide)), h, ok_ebind]
  dsimp only
  cases f with
  | zero => rw [pRead] at h; cases h
  | succ f =>
    rw [he, ok_ebind]
    show Except.ok (xs ++ [], [tE a]) = _
    rw [List.append_nil]
theorem stmts_one {f d : Nat} {M : List Tk} {a : Int} {x : Syn} {w : List UInt8} (hw : pNamed (pHd (tW w :: M)) = true ∨ w = wAssert) (h : pRead f .stmt d (tW w :: M) = .ok ([x], [tS [125], tE a])) : pRead (f + 1) .stmts d (tW w :: M) = .ok ([x], [tS [125], tE a]) := by
  have hc : pNamed (pHd (tW w :: M)) = true ∨ pIs wIf (tW w :: M) = true ∨ pIs wWhile (tW w :: M) = true ∨ pIs wAssert (tW w :: M) = true ∨ pIs wAssume (tW w :: M) = true := by
    rcases hw with h | rfl
    · exact .inl h
    · exact .inr (.inr (.inr (.inl (by rw [is_W]; decide))))
  rw [pRead, if_pos hc, h, ok_ebind]
  dsimp only
  cases f with
  | zero => rw [pRead] at h; cases h
  | succ f => rw [stmts_end, ok_ebind]; rfl
theorem assert_at {f d : Nat} {M : List Tk} {r : List Tk} {c : Syn} (hM : M ≠ []) (hr : r ≠ []) (h : pRead f (.lvl 0) d M = .ok ([c], tS [59] :: r)) : pRead (f + 1) .stmt d (tW wAssert :: M) = .ok ([.mk 13 0 ⟨#[]⟩ 0 [c]], r) := by
  rw [pRead, named_W M (b := false) (by decide +kernel), if_neg Bool.false_ne_true, is_W, is_W, is_W, show (wAssert == wIf) = false by decide, if_neg Bool.false_ne_true, show (wAssert == wWhile) = false by decide, if_neg Bool.false_ne_true, tl_two _ hM, h, ok_ebind]
  dsimp only
  rw [need_S hr, ok_ebind]
  rfl
theorem assign_at {f d : Nat} {M : List Tk} {r : List Tk} {x : Syn} (hM : M ≠ []) (hr : r ≠ []) (h : pRead f (.lvl 4) d (tS [45] :: M) = .ok ([x], tS [59] :: r)) : pRead (f + 4) .stmt d (tW [120] :: tS [58, 61] :: tS [45] :: M) = .ok ([.mk 9 0 ⟨#[]⟩ 0 [.mk 3 0 ⟨#[]⟩ 0 [.mk 18 0 (str [120]) 0 []], x]], r) := by
  have hn : pNamed (pHd (tW [120] :: tS [58, 61] :: tS [45] :: M)) = true := named_W _ (by decide +kernel)
  have hx : pNext (tW [120] :: tS [58, 61] :: tS [45] :: M) = [58, 61] := by show bytes (str [58, 61]) = _; rw [bytes_str]
  have hp : pRead (f + 2) .place d (tW [120] :: tS [58, 61] :: tS [45] :: M) = .ok ([.mk 18 0 (str [120]) 0 []], tS [58, 61] :: tS [45] :: M) := by
    rw [pRead, name_W (by simp) (by decide +kernel), ok_ebind]
    dsimp only
    rw [is_S, show (([58, 61] : List UInt8) == [46]) = false by decide, if_neg Bool.false_ne_true]
    rfl
  have hl : pRead (f + 3) (.list .place) d (tW [120] :: tS [58, 61] :: tS [45] :: M) = .ok ([.mk 18 0 (str [120]) 0 []], tS [58, 61] :: tS [45] :: M) := by
    rw [pRead, hp, ok_ebind]
    dsimp only
    rw [is_S, show (([58, 61] : List UInt8) == [44]) = false by decide, if_neg Bool.false_ne_true]
    rfl
  have hg : pRead (f + 3) .right d (tS [45] :: M) = .ok ([x], tS [59] :: r) := by
    rw [pRead, is_S, show (([45] : List UInt8) == wInput) = false by decide, if_neg Bool.false_ne_true, named_S, if_neg (by simp), if_neg (by simp)]
    exact read_up h (by omega)
  rw [pRead, if_pos hn, hx, if_neg (by decide), if_neg (by decide), hl, ok_ebind]
  dsimp only
  rw [need_S (by simp), ok_ebind, hg, ok_ebind]
  dsimp only
  rw [need_S hr, ok_ebind]
  rfl
/-- The program with a procedure p with one statement. -/
theorem whole_at {f : Nat} {M : List Tk} {a : Int} {x : Syn} {w : List UInt8} (hw : pNamed (pHd (tW w :: M)) = true ∨ w = wAssert) (h1 : (w == wVar) = false) (h2 : (w == wArray) = false) (h : pRead f .stmt 66 (tW w :: M) = .ok ([x], [tS [125], tE a])) :
    ∃ g, pRead g (.program 0) 65 (tW wProc :: tW [112] :: tS [40] :: tS [41] :: tS [123] :: tW w :: M) = .ok ([.mk 2 0 (str [112]) 0 [.mk 3 0 ⟨#[]⟩ 0 [], .mk 3 0 ⟨#[]⟩ 0 [], .mk 5 0 ⟨#[]⟩ 0 [], .mk 5 0 ⟨#[]⟩ 0 [], .mk 6 0 ⟨#[]⟩ 0 [x]]], [tE a]) :=
  ⟨_, prog_at (proc_at (body_at (d := 65) (by omega) h1 h2 (stmts_one hw h)))⟩
theorem bare_mk {k a n : Int} {t : ByteArray} {ks : List Syn} {y : Syn} (h : bareS (.mk k a t n ks) = bareS y) : ∃ a' ks', y = .mk k a' t n ks' ∧ bareL ks = bareL ks' := by
  obtain ⟨k', a', t', n', ks'⟩ := y
  rw [bareS, bareS, Syn.mk.injEq] at h
  obtain ⟨rfl, -, rfl, rfl, h⟩ := h
  exact ⟨a', ks', rfl, h⟩
theorem bare_cons {x : Syn} {xs ys : List Syn} (h : bareL (x :: xs) = bareL ys) : ∃ y zs, ys = y :: zs ∧ bareS x = bareS y ∧ bareL xs = bareL zs := by
  cases ys with
  | nil => rw [bareL, bareL] at h; cases h
  | cons y zs =>
    rw [bareL, bareL, List.cons.injEq] at h
    exact ⟨y, zs, rfl, h.1, h.2⟩
theorem bare_none {ys : List Syn} (h : bareL [] = bareL ys) : ys = [] := by
  cases ys with
  | nil => rfl
  | cons y zs => rw [bareL, bareL] at h; cases h
/-- What the law looks at of a program with one procedure with one statement. -/
theorem whole_shape {x y : Syn} {k1 k2 k3 k4 : Syn} {t1 t2 : ByteArray} {a b c : Int} {t0 : ByteArray} (h : bareS (.mk 0 a t0 0 [.mk 2 b t1 0 [k1, k2, k3, k4, .mk 6 c t2 0 [x]]]) = bareS y) :
    ∃ a' b' c' j1 j2 j3 j4 x', y = .mk 0 a' t0 0 [.mk 2 b' t1 0 [j1, j2, j3, j4, .mk 6 c' t2 0 [x']]] ∧ bareS x = bareS x' := by
  obtain ⟨a', ks, rfl, h1⟩ := bare_mk h
  obtain ⟨y1, zs, rfl, h2, h3⟩ := bare_cons h1
  obtain rfl := bare_none h3
  obtain ⟨b', ks, rfl, h4⟩ := bare_mk h2
  obtain ⟨j1, zs, rfl, -, h5⟩ := bare_cons h4
  obtain ⟨j2, zs, rfl, -, h5⟩ := bare_cons h5
  obtain ⟨j3, zs, rfl, -, h5⟩ := bare_cons h5
  obtain ⟨j4, zs, rfl, -, h5⟩ := bare_cons h5
  obtain ⟨j5, zs, rfl, h6, h5⟩ := bare_cons h5
  obtain rfl := bare_none h5
  obtain ⟨c', ks, rfl, h7⟩ := bare_mk h6
  obtain ⟨x', zs, rfl, h8, h9⟩ := bare_cons h7
  obtain rfl := bare_none h9
  exact ⟨a', b', c', j1, j2, j3, j4, x', rfl, h8⟩
/-- ParserHolds, a condition. -/
theorem holds_cond {s : ByteArray} {c : Syn} (hz : s.size ≤ 1000) (h : pAns 2 s = .ok c) :
    (∃ a, pAns 0 ((⟨#[112, 114, 111, 99, 32, 112, 40, 41, 32, 123, 32, 97, 115, 115, 101, 114, 116, 32]⟩ : ByteArray) ++ s ++ (⟨#[10, 59, 32, 125]⟩ : ByteArray)) = .error (a, 12)) ∨
    ∃ y, pAns 0 ((⟨#[112, 114, 111, 99, 32, 112, 40, 41, 32, 123, 32, 97, 115, 115, 101, 114, 116, 32]⟩ : ByteArray) ++ s ++ (⟨#[10, 59, 32, 125]⟩ : ByteArray)) = .ok y ∧
      ∃ a' b' c' j1 j2 j3 j4 d' c1 t1 t2, y = .mk 0 a' ⟨#[]⟩ 0 [.mk 2 b' t1 0 [j1, j2, j3, j4, .mk 6 c' t2 0 [.mk 13 d' ⟨#[]⟩ 0 [c1]]]] ∧ bareS c1 = bareS c := by
  obtain ⟨s0, V, e, f, xs, hV, hok, h1, hx, -⟩ := pAns_ok h
  obtain ⟨c2, rfl⟩ := (one_read f).1 _ _ _ _ _ h1
  obtain rfl : c = c2 := hx
  have h1 : pRead f (.lvl 0) 0 (V ++ [tE e]) = .ok ([c], [tE e]) := h1
  have hBs := B_scan s0 hV
  have h2 := lvl_in (S' := tS [59] :: [tS [125], tE 0]) (Nat.le_refl 0) (by simp) (inr59 0) (far_read 66 (by omega) h1)
  have h3 := assert_at (by simp) (by simp) h2
  obtain ⟨g, hg⟩ := whole_at (.inr rfl) (by decide) (by decide) h3
  have hB : B (bytes ((⟨#[112, 114, 111, 99, 32, 112, 40, 41, 32, 123, 32, 97, 115, 115, 101, 114, 116, 32]⟩ : ByteArray) ++ s ++ (⟨#[10, 59, 32, 125]⟩ : ByteArray))) = some ((tW wProc :: tW [112] :: tS [40] :: tS [41] :: tS [123] :: tW wAssert :: (V ++ tS [59] :: [tS [125], tE 0])).map nt) := by
    have e1 : bytes ((⟨#[112, 114, 111, 99, 32, 112, 40, 41, 32, 123, 32, 97, 115, 115, 101, 114, 116, 32]⟩ : ByteArray) ++ s ++ (⟨#[10, 59, 32, 125]⟩ : ByteArray)) = wProc ++ 32 :: ([112] ++ 40 :: 41 :: 32 :: 123 :: 32 :: (wAssert ++ 32 :: (bytes s ++ 10 :: 59 :: 32 :: 125 :: []))) := by
      simp only [bytes_app, List.append_assoc]; rfl
    rw [e1, B_tok (x := wProc) (ok_of (by decide +kernel)) (by decide +kernel) (by decide), B_sp1, B_tok (x := [112]) (ok_of (by decide +kernel)) (by decide +kernel) (by decide), B_40, B_41, B_sp1, B_123, B_sp1,
      B_tok (x := wAssert) (ok_of (by decide +kernel)) (by decide +kernel) (by decide), B_sp1, B_line, hBs, B_59, B_sp1, B_125, B_nil]
    simp only [Option.bind_some, Option.map_some, List.dropLast_concat, List.map_append, List.map_cons, nt_S, nt_W, show tkd wProc = 0 by decide +kernel, show tkd [112] = 0 by decide +kernel, show tkd wAssert = 0 by decide +kernel]
    rfl
  have hzT : ((⟨#[112, 114, 111, 99, 32, 112, 40, 41, 32, 123, 32, 97, 115, 115, 101, 114, 116, 32]⟩ : ByteArray) ++ s ++ (⟨#[10, 59, 32, 125]⟩ : ByteArray)).size ≤ 65536 := by
    rw [← bytes_length]
    simp only [bytes_app, List.length_append, bytes_length]
    show 18 + s.size + 4 ≤ 65536
    omega
  rcases dp_read 0 hg with q | ⟨a, q⟩
  · right
    obtain ⟨y, y1, y2⟩ := pAns_list (k := 0) hzT hB (pTk_of (k := 0) (l := tW wProc :: tW [112] :: tS [40] :: tS [41] :: tS [123] :: tW wAssert :: (V ++ tS [59] :: [tS [125], tE 0])) q rfl)
    obtain ⟨a', b', c', j1, j2, j3, j4, x', rfl, h8⟩ := whole_shape y2
    obtain ⟨d', ks, rfl, h9⟩ := bare_mk h8
    obtain ⟨c1, zs, rfl, h10, h11⟩ := bare_cons h9
    obtain rfl := bare_none h11
    exact ⟨_, y1, a', b', c', j1, j2, j3, j4, d', c1, _, _, rfl, h10.symm⟩
  · left
    exact pAns_deep (k := 0) hzT hB q
/-- An expression in parentheses. -/
theorem holds_par {s : ByteArray} {x : Syn} (hz : s.size ≤ 1000) (h : pAns 3 s = .ok x) : (∃ a, pAns 3 ((⟨#[40]⟩ : ByteArray) ++ s ++ (⟨#[10, 41]⟩ : ByteArray)) = .error (a, 12)) ∨ ∃ c, pAns 3 ((⟨#[40]⟩ : ByteArray) ++ s ++ (⟨#[10, 41]⟩ : ByteArray)) = .ok c ∧ bareS x = bareS c := by
  obtain ⟨s0, V, e, f, xs, hV, hok, h1, hx, -⟩ := pAns_ok h
  obtain ⟨c2, rfl⟩ := (one_read f).1 _ _ _ _ _ h1
  obtain rfl : x = c2 := hx
  have h1 : pRead f (.lvl 4) 0 (V ++ [tE e]) = .ok ([x], [tE e]) := h1
  have hBs := B_scan s0 hV
  obtain ⟨g, hg⟩ := par4 (d := 65) (S := [tE 0]) hok (far_read 66 (by omega) h1) (by omega) (by simp) (inrE 4 0)
  have h2 := up6 hg (op_end _ _) (op_end _ _)
  have hB : B (bytes ((⟨#[40]⟩ : ByteArray) ++ s ++ (⟨#[10, 41]⟩ : ByteArray))) = some ((tS [40] :: (V ++ tS [41] :: [tE 0])).map nt) := by
    have e1 : bytes ((⟨#[40]⟩ : ByteArray) ++ s ++ (⟨#[10, 41]⟩ : ByteArray)) = 40 :: (bytes s ++ 10 :: 41 :: []) := by
      simp only [bytes_app, List.append_assoc]; rfl
    rw [e1, B_40, B_line, hBs, B_41, B_nil]
    simp only [Option.bind_some, Option.map_some, List.dropLast_concat, List.map_append, List.map_cons, nt_S]
    rfl
  have hzT : ((⟨#[40]⟩ : ByteArray) ++ s ++ (⟨#[10, 41]⟩ : ByteArray)).size ≤ 65536 := by
    rw [← bytes_length]
    simp only [bytes_app, List.length_append, bytes_length]
    show 1 + s.size + 2 ≤ 65536
    omega
  rcases dp_read 0 h2 with q | ⟨a, q⟩
  · right
    exact pAns_list (k := 3) hzT hB (pTk_of (k := 3) (l := tS [40] :: (V ++ tS [41] :: [tE 0])) q rfl)
  · left
    exact pAns_deep (k := 3) hzT hB q
/-- ParserHolds, an expression. -/
theorem holds_expr {s : ByteArray} {x : Syn} (hz : s.size ≤ 1000) (h : pAns 3 s = .ok x) :
    (∃ a, pAns 0 ((⟨#[112, 114, 111, 99, 32, 112, 40, 41, 32, 123, 32, 120, 32, 58, 61, 32, 45, 32]⟩ : ByteArray) ++ ((⟨#[40]⟩ : ByteArray) ++ s ++ (⟨#[10, 41]⟩ : ByteArray)) ++ (⟨#[10, 59, 32, 125]⟩ : ByteArray)) = .error (a, 12)) ∨
    ∃ y, pAns 0 ((⟨#[112, 114, 111, 99, 32, 112, 40, 41, 32, 123, 32, 120, 32, 58, 61, 32, 45, 32]⟩ : ByteArray) ++ ((⟨#[40]⟩ : ByteArray) ++ s ++ (⟨#[10, 41]⟩ : ByteArray)) ++ (⟨#[10, 59, 32, 125]⟩ : ByteArray)) = .ok y ∧
      ∃ a' b' c' j1 j2 j3 j4 d' i1 d2 x1 t1 t2 t3, y = .mk 0 a' ⟨#[]⟩ 0 [.mk 2 b' t1 0 [j1, j2, j3, j4, .mk 6 c' t2 0 [.mk 9 d' ⟨#[]⟩ 0 [i1, .mk 21 d2 t3 0 [x1]]]]] ∧ bareS x1 = bareS x := by
  obtain ⟨s0, V, e, f, xs, hV, hok, h1, hx, -⟩ := pAns_ok h
  obtain ⟨c2, rfl⟩ := (one_read f).1 _ _ _ _ _ h1
  obtain rfl : x = c2 := hx
  have h1 : pRead f (.lvl 4) 0 (V ++ [tE e]) = .ok ([x], [tE e]) := h1
  have hBs := B_scan s0 hV
  obtain ⟨g0, hg0⟩ := par4 (d := 67) (S := tS [59] :: [tS [125], tE 0]) hok (far_read 68 (by omega) h1) (by omega) (by simp) (inr59 4)
  have h2 := neg6 (d := 66) (t := tS [45]) (by show bytes (str [45]) = _; rw [bytes_str]) (by simp) (by omega) hg0
  have h3 := up6 h2 (op59 5 _) (op59 4 _)
  have h4 := assign_at (by simp) (by simp) h3
  obtain ⟨g, hg⟩ := whole_at (.inl (named_W _ (by decide +kernel))) (by decide) (by decide) h4
  have hB : B (bytes ((⟨#[112, 114, 111, 99, 32, 112, 40, 41, 32, 123, 32, 120, 32, 58, 61, 32, 45, 32]⟩ : ByteArray) ++ ((⟨#[40]⟩ : ByteArray) ++ s ++ (⟨#[10, 41]⟩ : ByteArray)) ++ (⟨#[10, 59, 32, 125]⟩ : ByteArray))) = some ((tW wProc :: tW [112] :: tS [40] :: tS [41] :: tS [123] :: tW [120] :: tS [58, 61] :: tS [45] :: tS [40] :: (V ++ tS [41] :: tS [59] :: [tS [125], tE 0])).map nt) := by
    have e1 : bytes ((⟨#[112, 114, 111, 99, 32, 112, 40, 41, 32, 123, 32, 120, 32, 58, 61, 32, 45, 32]⟩ : ByteArray) ++ ((⟨#[40]⟩ : ByteArray) ++ s ++ (⟨#[10, 41]⟩ : ByteArray)) ++ (⟨#[10, 59, 32, 125]⟩ : ByteArray)) = wProc ++ 32 :: ([112] ++ 40 :: 41 :: 32 :: 123 :: 32 :: ([120] ++ 32 :: ([58, 61] ++ 32 :: ([45] ++ 32 :: 40 :: (bytes s ++ 10 :: 41 :: 10 :: 59 :: 32 :: 125 :: []))))) := by
      simp only [bytes_app, List.append_assoc]; rfl
    have sp10 : ∀ z, B (10 :: z) = B z := fun z => B_gap (g := [10]) (gap_spaces [10] (by decide)).1 z
    rw [e1, B_tok (x := wProc) (ok_of (by decide +kernel)) (by decide +kernel) (by decide), B_sp1, B_tok (x := [112]) (ok_of (by decide +kernel)) (by decide +kernel) (by decide), B_40, B_41, B_sp1, B_123, B_sp1,
      B_tok (x := [120]) (ok_of (by decide +kernel)) (by decide +kernel) (by decide), B_sp1, B_tok (x := [58, 61]) (ok_of (by decide +kernel)) (by decide +kernel) (by decide), B_sp1, B_tok (x := [45]) (ok_of (by decide +kernel)) (by decide +kernel) (by decide), B_sp1, B_40, B_line, hBs, B_41, sp10, B_59, B_sp1, B_125, B_nil]
    simp only [Option.bind_some, Option.map_some, List.dropLast_concat, List.map_append, List.map_cons, nt_S, nt_W, show tkd wProc = 0 by decide +kernel, show tkd [112] = 0 by decide +kernel, show tkd [120] = 0 by decide +kernel, show tkd [58, 61] = 2 by decide +kernel, show tkd [45] = 2 by decide +kernel]
    rfl
  have hzT : ((⟨#[112, 114, 111, 99, 32, 112, 40, 41, 32, 123, 32, 120, 32, 58, 61, 32, 45, 32]⟩ : ByteArray) ++ ((⟨#[40]⟩ : ByteArray) ++ s ++ (⟨#[10, 41]⟩ : ByteArray)) ++ (⟨#[10, 59, 32, 125]⟩ : ByteArray)).size ≤ 65536 := by
    rw [← bytes_length]
    simp only [bytes_app, List.length_append, bytes_length]
    show 18 + (1 + s.size + 2) + 4 ≤ 65536
    omega
  rcases dp_read 0 hg with q | ⟨a, q⟩
  · right
    obtain ⟨y, y1, y2⟩ := pAns_list (k := 0) hzT hB (pTk_of (k := 0) (l := tW wProc :: tW [112] :: tS [40] :: tS [41] :: tS [123] :: tW [120] :: tS [58, 61] :: tS [45] :: tS [40] :: (V ++ tS [41] :: tS [59] :: [tS [125], tE 0])) q rfl)
    obtain ⟨a', b', c', j1, j2, j3, j4, x', rfl, h8⟩ := whole_shape y2
    obtain ⟨d', ks, rfl, h9⟩ := bare_mk h8
    obtain ⟨i1, zs, rfl, -, h11⟩ := bare_cons h9
    obtain ⟨i2, zs, rfl, h12, h13⟩ := bare_cons h11
    obtain rfl := bare_none h13
    obtain ⟨d2, ks, rfl, h14⟩ := bare_mk h12
    obtain ⟨x1, zs, rfl, h15, h16⟩ := bare_cons h14
    obtain rfl := bare_none h16
    exact ⟨_, y1, a', b', c', j1, j2, j3, j4, d', i1, d2, x1, _, _, _, rfl, h15.symm⟩
  · left
    exact pAns_deep (k := 0) hzT hB q
end Go.Proofs.YtdibcllakkjegaaGreatDoor

