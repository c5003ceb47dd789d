/-
  lexer.Place; surveyorref08: Place, Strip.
-/
import Derived.Test.YtmogmneaomndeaaDoorLexP
import Derived.Lib.LastIndexByte
set_option linter.unusedSimpArgs false
set_option linter.unusedVariables false
namespace Go.Proofs.YtmogmneaomndeaaDoor
open Go Go.Proofs Go.RowKit

/-- The line and the column behind a text. -/
def lc (l : List UInt8) : Nat × Nat := l.foldl (fun p c => if c = 10 then (p.1 + 1, 1) else (p.1, p.2 + 1)) (1, 1)
theorem lc_snoc (l : List UInt8) (c : UInt8) : lc (l ++ [c]) = if c = 10 then ((lc l).1 + 1, 1) else ((lc l).1, (lc l).2 + 1) := by
  unfold lc
  rw [List.foldl_append]
  rfl
theorem lc_fold1 : ∀ (l : List UInt8) (p : Nat × Nat), (l.foldl (fun p c => if c = 10 then (p.1 + 1, 1) else (p.1, p.2 + 1)) p).1 = p.1 + l.count 10
  | [], p => rfl
  | c :: l, p => by
    rw [List.foldl_cons, lc_fold1 l]
    by_cases h : c = 10
    · rw [if_pos h, h, List.count_cons_self]; show p.1 + 1 + _ = _; omega
    · rw [if_neg h, List.count_cons_of_ne h]
theorem lc_line (l : List UInt8) : (lc l).1 = 1 + l.count 10 := lc_fold1 l (1, 1)
theorem lc_fold2 : ∀ (l : List UInt8) (p : Nat × Nat), (10 : UInt8) ∉ l → (l.foldl (fun p c => if c = 10 then (p.1 + 1, 1) else (p.1, p.2 + 1)) p).2 = p.2 + l.length
  | [], p, _ => rfl
  | c :: l, p, h => by
    simp only [List.mem_cons, not_or] at h
    rw [List.foldl_cons, lc_fold2 l _ h.2, if_neg (fun e => h.1 e.symm)]
    show p.2 + 1 + l.length = p.2 + (l.length + 1); omega
theorem lc_col0 {l : List UInt8} (h : (10 : UInt8) ∉ l) : (lc l).2 = 1 + l.length := lc_fold2 l (1, 1) h
theorem lc_col1 (p : List UInt8) {q : List UInt8} (h : (10 : UInt8) ∉ q) : (lc (p ++ 10 :: q)).2 = 1 + q.length := by
  unfold lc
  rw [List.foldl_append, List.foldl_cons, if_pos rfl]
  exact lc_fold2 q _ h
theorem data_at (s : ByteArray) {j : Nat} (h : j < s.size) : s.data[j]! = (bytes s)[j]'h := by
  rw [getElem!_pos s.data j h]
  unfold bytes
  rw [Array.getElem_toList]
theorem last_col (s : ByteArray) : (s.size : Int) - Lib.lastIndexByte s 10 = ((lc (bytes s)).2 : Int) ∧ -1 ≤ Lib.lastIndexByte s 10 ∧ Lib.lastIndexByte s 10 < s.size := by
  unfold Lib.lastIndexByte
  have key : ∀ j (h : j < s.size), ((s.data[j]!).toNat : Int) ≠ 10 → (bytes s)[j]'h ≠ 10 := fun j h hn e => by
    rw [data_at s h, e] at hn
    exact hn rfl
  rcases Lib.lastIdx_spec s 10 s.size with ⟨h, hn⟩ | ⟨i, hi, h, hc, hn⟩
  · have hm : (10 : UInt8) ∉ bytes s := fun hm => by
      obtain ⟨j, hj, e⟩ := List.mem_iff_getElem.1 hm
      exact key j hj (hn j hj) e
    rw [h, lc_col0 hm, bytes_length]
    refine ⟨by omega, by omega, by omega⟩
  · have hm : (10 : UInt8) ∉ (bytes s).drop (i + 1) := fun hm => by
      obtain ⟨j, hj, e⟩ := List.mem_iff_getElem.1 hm
      rw [List.length_drop, bytes_length] at hj
      rw [List.getElem_drop] at e
      exact key (i + 1 + j) (by omega) (hn _ (by omega) (by omega)) e
    have e10 : (bytes s)[i]'hi = 10 := by
      rw [data_at s hi] at hc
      exact UInt8.toNat_inj.1 (by show _ = 10; omega)
    have he : bytes s = (bytes s).take i ++ 10 :: (bytes s).drop (i + 1) := by
      have hd := drop_get s hi
      rw [e10] at hd
      rw [← hd, List.take_append_drop]
    have hcol := lc_col1 ((bytes s).take i) hm
    rw [← he] at hcol
    rw [h, hcol, List.length_drop, bytes_length]
    refine ⟨by omega, by omega, by omega⟩
/-- What Place answers. -/
def plR (s : ByteArray) (a : Int) : Nat × Nat × Nat :=
  if 65536 < s.size then (0, 0, 13) else if a < 0 ∨ (s.size : Int) < a then (0, 0, 2) else ((lc ((bytes s).take a.toNat)).1, (lc ((bytes s).take a.toNat)).2, 0)
theorem count_le (l : List UInt8) : l.count 10 ≤ l.length := List.count_le_length

set_option maxHeartbeats 400000 in
theorem place_any (s : ByteArray) (a : Int) (w : World) :
    Calls Tryd.prog 25 #[.string s, .int .i64 a] w fun e w' => e = .returned (.tuple #[.int .i64 ((plR s a).1 : Nat), .int .i64 ((plR s a).2.1 : Nat), .int .i64 ((plR s a).2.2 : Nat)]) ∧ Below w.heap.size w w' := by
  have CL : ∀ W : World, Calls Tryd.prog 36 #[.string s] W fun e w' => e = .returned (.bool (decide (65536 < s.size))) ∧ w' = W := fun W => isLongL_any s W
  unfold plR
  by_cases hlong : 65536 < s.size
  · rw [if_pos hlong]
    rw [decide_eq_true hlong] at CL
    have KL := Lib.hid CL; have HLO := Lib.hid hlong
    clear CL hlong
    go_enter Tryd.func25, Tryd.ntmps25
    go_wp2_with (go_at_call 36; refine (KL.out _).mono ?_; rintro e w3 ⟨rfl, h⟩; subst h; refine Hid.out ?_)
    refine Lib.hid ?_
    go_wp2
    refine bodyPost_ret (by simp [results, Tryd.results25, go_sem]; rfl) rfl ?_
    exact ⟨rfl, Below.refl _ _⟩
  rw [if_neg hlong]
  rw [decide_eq_false hlong] at CL
  have KL := Lib.hid CL; have HLO := Lib.hid hlong
  clear CL hlong
  by_cases h0 : a < 0
  · rw [if_pos (.inl h0)]
    have b0 : decide (a < 0) = true := decide_eq_true h0
    have H0 := Lib.hid h0; clear h0
    go_enter Tryd.func25, Tryd.ntmps25
    go_wp2_with (go_at_call 36; refine (KL.out _).mono ?_; rintro e w3 ⟨rfl, h⟩; subst h; refine Hid.out ?_)
    refine Lib.hid ?_
    go_wp2
    refine bodyPost_ret (by simp [results, Tryd.results25, go_sem]; rfl) rfl ?_
    exact ⟨rfl, Below.refl _ _⟩
  have b0 : decide (a < 0) = false := decide_eq_false h0
  by_cases h1 : (s.size : Int) < a
  · rw [if_pos (.inr h1)]
    have b1 : decide ((s.size : Int) < a) = true := decide_eq_true h1
    have H0 := Lib.hid h0; have H1 := Lib.hid h1; clear h0 h1
    go_enter Tryd.func25, Tryd.ntmps25
    go_wp2_with (go_at_call 36; refine (KL.out _).mono ?_; rintro e w3 ⟨rfl, h⟩; subst h; refine Hid.out ?_)
    refine Lib.hid ?_
    go_wp2
    refine bodyPost_ret (by simp [results, Tryd.results25, go_sem]; rfl) rfl ?_
    exact ⟨rfl, Below.refl _ _⟩
  rw [if_neg (by omega)]
  obtain ⟨n, rfl⟩ : ∃ n : Nat, a = n := ⟨a.toNat, by omega⟩
  have hn : n ≤ s.size := by omega
  have b1 : decide ((s.size : Int) < (n : Int)) = false := decide_eq_false h1
  have b1n : decide (s.size < n) = false := decide_eq_false (by omega)
  have b1m : ¬ s.size < n := by omega
  have hrun : ∀ W : World, (Instr.slice 9 (.string s) none (some (.int .i64 (n : Int))) none).run Tryd.prog W = .ok (.string (s.extract 0 n)) W := fun W => run_str_h W 9 s Tryd.underlying9 n hn
  have hsz : (s.extract 0 n).size = n := by rw [extract_take, str_size, List.length_take, bytes_length]; omega
  have hby : bytes (s.extract 0 n) = (bytes s).take n := by rw [extract_take, bytes_str]
  have hlast := last_col (s.extract 0 n)
  rw [hsz, hby] at hlast
  have CC := fun W => Tryd.strings_Count_one (s.extract 0 n) 10 W
  have CI := fun W => Tryd.strings_LastIndexByte (s.extract 0 n) 10 (by have := HLO.out; omega) W
  have hcount : Lib.countByte (s.extract 0 n).data.toList 10 = ((bytes s).take n).count 10 := by
    show (bytes (s.extract 0 n)).count 10 = _
    rw [hby]
  rw [hcount] at CC
  have hcl := count_le ((bytes s).take n)
  rw [List.length_take, bytes_length] at hcl
  have hl1 := lc_line ((bytes s).take n)
  rw [show ((n : Int)).toNat = n from rfl]
  generalize s.extract 0 n = B at *
  generalize Lib.lastIndexByte B 10 = li at *
  generalize ((bytes s).take n).count 10 = cn at *
  generalize lc ((bytes s).take n) = lv at *
  obtain ⟨lv1, lv2⟩ := lv
  dsimp only at hl1 hlast ⊢
  have e1 : wrap64 (1 + (cn : Int)) = (lv1 : Int) := by have := HLO.out; unfold wrap64; omega
  have e2 : wrap64 ((n : Int) - li) = (lv2 : Int) := by have := HLO.out; unfold wrap64; omega
  have i1 : IntKind.i64.wrap (1 + (cn : Int)) = (lv1 : Int) := by rw [← e1]; unfold wrap64; exact IntKind.wrap_i64 _
  have i2 : IntKind.i64.wrap ((n : Int) - li) = (lv2 : Int) := by rw [← e2]; unfold wrap64; exact IntKind.wrap_i64 _
  have KC := Lib.hid CC; have KI := Lib.hid CI
  have H0 := Lib.hid h0; have H1 := Lib.hid h1; have HN := Lib.hid hn
  clear CC CI h0 h1 hn hsz hby hlast hcount hcl hl1
  go_enter Tryd.func25, Tryd.ntmps25
  go_wp2_with (go_at_call 36; refine (KL.out _).mono ?_; rintro e w3 ⟨rfl, h⟩; subst h; refine Hid.out ?_)
  refine Lib.hid ?_
  go_wp2_with (go_at_call 34; refine (KC.out _).mono ?_; rintro e w4 ⟨rfl, h⟩; subst h; refine Hid.out ?_)
  refine Lib.hid ?_
  go_wp2_with (go_at_call 58; refine (KI.out _).mono ?_; rintro e w4 ⟨rfl, h⟩; subst h; refine Hid.out ?_)
  refine Lib.hid ?_
  go_wp2
  refine bodyPost_ret (by simp [results, Tryd.results25, go_sem]; rfl) rfl ?_
  first | exact ⟨rfl, Below.refl _ _⟩ | (rw [e1, e2]; exact ⟨rfl, Below.refl _ _⟩)

set_option maxHeartbeats 400000 in
theorem refPlace_any (s : ByteArray) (a : Int) (w : World) :
    Calls Tryd.prog 26 #[.string s, .int .i64 a] w fun e w' => e = .returned (.tuple #[.int .i64 ((plR s a).1 : Nat), .int .i64 ((plR s a).2.1 : Nat), .int .i64 ((plR s a).2.2 : Nat)]) ∧ Below w.heap.size w w' := by
  unfold plR
  by_cases hlong : 65536 < s.size
  · rw [if_pos hlong]
    have bl : decide ((65536 : Int) < (s.size : Int)) = true := by rw [decide_eq_true_iff]; omega
    have HLO := Lib.hid hlong
    clear hlong
    go_enter Tryd.func26, Tryd.ntmps26
    go_wp2
    refine bodyPost_ret (by simp [results, Tryd.results26, go_sem]; rfl) rfl ?_
    exact ⟨rfl, Below.refl _ _⟩
  rw [if_neg hlong]
  have bl : decide ((65536 : Int) < (s.size : Int)) = false := by rw [decide_eq_false_iff_not]; omega
  have HLO := Lib.hid hlong
  clear hlong
  by_cases h0 : a < 0
  · rw [if_pos (.inl h0)]
    have b0 : decide (a < 0) = true := decide_eq_true h0
    have H0 := Lib.hid h0; clear h0
    go_enter Tryd.func26, Tryd.ntmps26
    go_wp2
    refine bodyPost_ret (by simp [results, Tryd.results26, go_sem]; rfl) rfl ?_
    exact ⟨rfl, Below.refl _ _⟩
  have b0 : decide (a < 0) = false := decide_eq_false h0
  by_cases h1 : (s.size : Int) < a
  · rw [if_pos (.inr h1)]
    have b1 : decide ((s.size : Int) < a) = true := decide_eq_true h1
    have H0 := Lib.hid h0; have H1 := Lib.hid h1; clear h0 h1
    go_enter Tryd.func26, Tryd.ntmps26
    go_wp2
    refine bodyPost_ret (by simp [results, Tryd.results26, go_sem]; rfl) rfl ?_
    exact ⟨rfl, Below.refl _ _⟩
  rw [if_neg (by omega)]
  obtain ⟨n, rfl⟩ : ∃ n : Nat, a = n := ⟨a.toNat, by omega⟩
  have hn : n ≤ s.size := by omega
  have b1 : decide ((s.size : Int) < (n : Int)) = false := decide_eq_false h1
  have b1n : decide (s.size < n) = false := decide_eq_false (by omega)
  have b1m : ¬ s.size < n := by omega
  rw [show ((n : Int)).toNat = n from rfl]
  have H0 := Lib.hid h0; have H1 := Lib.hid h1; have HN := Lib.hid hn
  clear h0 h1 hn
  have hstep : ∀ j, j < n → lc ((bytes s).take (j + 1)) = if byteAt s j = 10 then ((lc ((bytes s).take j)).1 + 1, 1) else ((lc ((bytes s).take j)).1, (lc ((bytes s).take j)).2 + 1) := fun j hj => by
    have hjs : j < s.size := by have := HN.out; omega
    rw [List.take_succ_eq_append_getElem (show j < (bytes s).length from hjs), lc_snoc, byteAt_idx hjs]
    have key : ∀ (b : UInt8) (X Y : Nat × Nat), (if b = 10 then X else Y) = if b.toNat = 10 then X else Y := fun b X Y => by
      by_cases h : b = 10
      · rw [if_pos h, if_pos (by rw [h]; rfl)]
      · rw [if_neg h, if_neg (show ¬ b.toNat = 10 from fun e => h (UInt8.toNat_inj.1 e))]
    exact key _ _ _
  have hbd : ∀ j, j ≤ n → (lc ((bytes s).take j)).1 ≤ j + 1 ∧ (lc ((bytes s).take j)).2 ≤ j + 1 := fun j => by
    induction j with
    | zero => intro _; exact ⟨Nat.le_refl _, Nat.le_refl _⟩
    | succ j ih =>
      intro hj
      rw [hstep j (by omega)]
      have := ih (by omega)
      split <;> exact ⟨by dsimp only; omega, by dsimp only; omega⟩
  have HST := Lib.hid hstep; have HBD := Lib.hid hbd
  clear hstep hbd
  go_enter Tryd.func26, Tryd.ntmps26
  go_wp2_with fail
  go_loopw [7, 8, 9] (fun x y iv wr => ∃ j : Nat, j ≤ n ∧ iv = .int .i64 (j : Int) ∧ x = .int .i64 ((lc ((bytes s).take j)).1 : Nat) ∧ y = .int .i64 ((lc ((bytes s).take j)).2 : Nat) ∧ wr = w) (fun _ _ iv _ => n - (intOf iv).toNat)
  case atStart => exact ⟨0, Nat.zero_le _, rfl, rfl, rfl, rfl⟩
  case round =>
    obtain ⟨j, hj, rfl, rfl, rfl, hw⟩ := hrel
    subst hw
    by_cases hlt : j < n
    · have hjs : j < s.size := by have := HN.out; omega
      have hb := byteAt_get s j hjs
      have hs65 : n ≤ 65536 := by have := HLO.out; have := HN.out; omega
      have hst := HST.out j hlt
      have hbd := HBD.out j hj
      generalize byteAt s j = b at *
      generalize lc ((bytes s).take j) = lv at *
      obtain ⟨l1, l2⟩ := lv
      dsimp only at hst hbd
      have ej : wrap64 ((j : Int) + 1) = (j : Int) + 1 := by unfold wrap64; omega
      have e1 : wrap64 ((l1 : Int) + 1) = ((l1 + 1 : Nat) : Int) := by unfold wrap64; omega
      have e2 : wrap64 ((l2 : Int) + 1) = ((l2 + 1 : Nat) : Int) := by unfold wrap64; omega
      have g0 : (0 : Int) ≤ (j : Int) := by omega
      have g1 : (j : Int) < (n : Int) := by omega
      have g2 : (j : Int) < (s.size : Int) := by omega
      by_cases h10 : b = 10
      · subst h10
        rw [if_pos rfl] at hst
        have HS2 := Lib.hid hst; have HJ := Lib.hid hlt; have HS65 := Lib.hid hs65
        clear hst hbd hlt hj hs65
        go_wp2
        go_roundw
        case rel => exact ⟨j + 1, HJ.out, (by first | exact congrArg (Value.int .i64) (Int.natCast_add j 1).symm | exact congrArg (Value.int .i64) (ej.trans (Int.natCast_add j 1).symm)), by rw [HS2.out]; first | exact congrArg (Value.int .i64) e1 | rfl, by rw [HS2.out]; rfl, by trivial⟩
        case measure => have := HJ.out; first | (show n - ((j : Int) + 1).toNat < n - ((j : Int)).toNat; omega) | (rw [ej]; show n - ((j : Int) + 1).toNat < n - ((j : Int)).toNat; omega)
      · have n10 : ((b : Int) == 10) = false := by rw [beq_eq_false_iff_ne]; omega
        rw [if_neg h10] at hst
        have HS2 := Lib.hid hst; have HJ := Lib.hid hlt; have HS65 := Lib.hid hs65; have H10 := Lib.hid h10
        clear hst hbd hlt hj hs65 h10
        go_wp2
        go_roundw
        case rel => exact ⟨j + 1, HJ.out, (by first | exact congrArg (Value.int .i64) (Int.natCast_add j 1).symm | exact congrArg (Value.int .i64) (ej.trans (Int.natCast_add j 1).symm)), by rw [HS2.out], by rw [HS2.out]; first | exact congrArg (Value.int .i64) e2 | rfl, by trivial⟩
        case measure => have := HJ.out; first | (show n - ((j : Int) + 1).toNat < n - ((j : Int)).toNat; omega) | (rw [ej]; show n - ((j : Int) + 1).toNat < n - ((j : Int)).toNat; omega)
    · obtain rfl : j = n := by omega
      have hge : ¬ (j : Int) < (j : Int) := by omega
      clear hlt hj
      go_wp2
      refine bodyPost_ret (by simp [results, Tryd.results26, go_sem]; rfl) rfl ?_
      exact ⟨rfl, Below.refl _ _⟩

theorem st_upTo : ∀ l : List UInt8, stB true l = stB false (l.drop (upTo 10 l).length)
  | [] => rfl
  | c :: l => by
    rw [stT, upTo_cons]
    by_cases h : c = 10
    · rw [if_pos h, if_pos h]
      show _ = stB false (c :: l)
      rw [stF, if_neg (by rw [h]; decide)]
    · rw [if_neg h, if_neg h, st_upTo l]
      rfl
/-- What the reference's Strip does at a place. -/
theorem st_step {s : ByteArray} {a : Nat} (h : a < s.size) : (byteAt s a = 35 → 0 < cmL (s.extract a s.size) ∧ a + cmL (s.extract a s.size) ≤ s.size ∧ stB false ((bytes s).drop a) = stB false ((bytes s).drop (a + cmL (s.extract a s.size)))) ∧
    (byteAt s a ≠ 35 → cmL (s.extract a s.size) = 0 ∧ stB false ((bytes s).drop a) = bytes (s.extract a (a + 1)) ++ stB false ((bytes s).drop (a + 1))) := by
  have hc := rest_comment h
  have h35 := cls35 h
  have hd := drop_get s h
  have hb := byteAt_idx h
  refine ⟨fun e => ?_, fun e => ?_⟩
  · rw [if_pos (h35.1 e)] at hc
    obtain ⟨-, p2, p3⟩ := pa_hash h (h35.1 e)
    rw [hc]
    refine ⟨p2, p3, ?_⟩
    have c35 : (bytes s)[a]'h = 35 := UInt8.toNat_inj.1 (by rw [← hb, e]; rfl)
    rw [← List.drop_drop]
    rw [hd, c35]
    rw [stF, if_pos rfl, st_upTo, upTo_cons, if_neg (by decide)]
    rfl
  · rw [if_neg (fun q => e (h35.2 q))] at hc
    refine ⟨hc, ?_⟩
    have c35 : (bytes s)[a]'h ≠ 35 := fun q => e (by rw [hb, q]; rfl)
    rw [extract_mid s (by omega), hd, stF, if_neg c35]
    rfl

set_option maxHeartbeats 400000 in
theorem refStrip_any (s : ByteArray) (w : World) :
    Calls Tryd.prog 28 #[.string s] w fun e w' => e = .returned (.tuple #[.string (stripR s).1, .int .i64 ((stripR s).2 : Nat)]) ∧ Below w.heap.size w w' := by
  by_cases hlong : 65536 < s.size
  · unfold stripR
    rw [if_pos hlong]
    have bl : decide ((65536 : Int) < (s.size : Int)) = true := by rw [decide_eq_true_iff]; omega
    have HLO := Lib.hid hlong
    clear hlong
    go_enter Tryd.func28, Tryd.ntmps28
    go_wp2
    refine bodyPost_ret (by simp [results, Tryd.results28, go_sem]; rfl) rfl ?_
    exact ⟨rfl, Below.refl _ _⟩
  have hle : s.size ≤ 65536 := by omega
  rw [stripR_st hle]
  have bl : decide ((65536 : Int) < (s.size : Int)) = false := by rw [decide_eq_false_iff_not]; omega
  have hT : str (stB false (bytes s)) = str ([] ++ stB false ((bytes s).drop 0)) := rfl
  have hsz : (stB false (bytes s)).length ≤ 65536 := by have := st_len false (bytes s); rw [bytes_length] at this; omega
  obtain ⟨R, hR⟩ : ∃ R, R = stB false (bytes s) := ⟨_, rfl⟩
  rw [← hR]
  have HR := Lib.hid hR; have HLE := Lib.hid hle
  rw [← hR] at hsz
  have HSZ := Lib.hid hsz
  clear hlong hle hT hsz hR
  go_enter Tryd.func28, Tryd.ntmps28
  go_wp2_with fail
  go_loopw [4, 5] (fun o iv wr => ∃ (j : Nat) (out : ByteArray), j ≤ s.size ∧ iv = .int .i64 (j : Int) ∧ o = .string out ∧ R = bytes out ++ stB false ((bytes s).drop j) ∧ Below w.heap.size w wr) (fun _ iv _ => s.size - (intOf iv).toNat)
  case atStart => exact ⟨0, ⟨#[]⟩, Nat.zero_le _, rfl, rfl, HR.out, Below.refl _ _⟩
  case round =>
    obtain ⟨j, out, hj, rfl, rfl, hRR, hB⟩ := hrel
    by_cases hlt : j < s.size
    · obtain ⟨q1, q2⟩ := st_step hlt
      have CM := fun W => comment_any (s.extract j s.size) (by rw [rest_size]; have := HLE.out; omega) W
      have g0 : (0 : Int) ≤ (j : Int) := by omega
      have g1 : (j : Int) < (s.size : Int) := by omega
      have hle := HLE.out
      have ej : wrap64 ((j : Int) + 1) = ((j + 1 : Nat) : Int) := by unfold wrap64; omega
      by_cases h35 : byteAt s j = 35
      · obtain ⟨c1, c2, c3⟩ := q1 h35
        rw [c3] at hRR
        generalize cmL (s.extract j s.size) = m at *
        have em : wrap64 ((j : Int) + (m : Int)) = ((j + m : Nat) : Int) := by unfold wrap64; omega
        have gm : decide ((0 : Int) < (m : Int)) = true := by rw [decide_eq_true_iff]; omega
        have gm2 : decide (0 < m) = true := by rw [decide_eq_true_iff]; omega
        have KM := Lib.hid CM; have HRR := Lib.hid hRR; have HB := Lib.hid hB; have HQ : Hid (0 < m ∧ j + m ≤ s.size) := Lib.hid ⟨c1, c2⟩
        clear CM hRR hB q1 q2 h35 c1 c2 c3 hlt hj hle
        go_wp2_with (go_at_call 40; refine (KM.out _).mono ?_; rintro e w3 ⟨rfl, h⟩; subst h; refine Hid.out ?_)
        refine Lib.hid ?_
        go_wp2
        go_roundw
        case rel => exact ⟨j + m, out, HQ.out.2, congrArg (Value.int .i64) (by first | exact em | exact (Int.natCast_add j m).symm), rfl, HRR.out, HB.out⟩
        case measure => have := HQ.out; first | (rw [em]; show s.size - ((j + m : Nat) : Int).toNat < s.size - ((j : Int)).toNat; omega) | (show s.size - ((j : Int) + (m : Int)).toNat < s.size - ((j : Int)).toNat; omega)
      · obtain ⟨c1, c2⟩ := q2 h35
        rw [c1] at CM
        rw [c2] at hRR
        have hrun : ∀ W : World, (Instr.slice 9 (.string s) (some (.int .i64 (j : Int))) (some (.int .i64 ((j : Int) + 1))) none).run Tryd.prog W = .ok (.string (s.extract j (j + 1))) W := fun W => by
          rw [show (j : Int) + 1 = ((j + 1 : Nat) : Int) from (Int.natCast_add j 1).symm]
          exact run_str_lh W 9 s Tryd.underlying9 j (j + 1) (by omega) (by omega)
        have hx1 : (s.extract j (j + 1)).size = 1 := extract_size s (by omega)
        have hos : out.size ≤ 65536 := by
          have := congrArg List.length hRR
          rw [List.length_append, bytes_length] at this
          have := HSZ.out; omega
        rw [← List.append_assoc, ← bytes_app] at hRR
        generalize s.extract j (j + 1) = X at *
        have h9 : ¬ 9223372036854775807 < out.size + X.size := by omega
        have KM := Lib.hid CM; have HRR := Lib.hid hRR; have HB := Lib.hid hB; have HJ := Lib.hid hlt
        clear CM hRR hB q1 q2 h35 c1 c2 hlt hj hle hx1 hos
        go_wp2_with (go_at_call 40; refine (KM.out _).mono ?_; rintro e w3 ⟨rfl, h⟩; subst h; refine Hid.out ?_)
        refine Lib.hid ?_
        go_wp2
        go_roundw
        case rel => exact ⟨j + 1, out ++ X, HJ.out, congrArg (Value.int .i64) (by first | exact ej | exact (Int.natCast_add j 1).symm), rfl, HRR.out, HB.out⟩
        case measure => have := HJ.out; first | (rw [ej]; show s.size - ((j + 1 : Nat) : Int).toNat < s.size - ((j : Int)).toNat; omega) | (show s.size - ((j : Int) + 1).toNat < s.size - ((j : Int)).toNat; omega)
    · obtain rfl : j = s.size := by omega
      rw [List.drop_eq_nil_of_le (by rw [bytes_length]; omega), stN, List.append_nil] at hRR
      have hge : ¬ ((s.size : Nat) : Int) < (s.size : Int) := by omega
      have HRR := Lib.hid hRR; have HB := Lib.hid hB
      clear hRR hB hlt hj
      go_wp2
      refine bodyPost_ret (by simp [results, Tryd.results28, go_sem]; rfl) rfl ?_
      rw [HRR.out, str_bytes]
      exact ⟨rfl, HB.out⟩
end Go.Proofs.YtmogmneaomndeaaDoor
