/-
  Two texts with a line feed between them; slices.IsSorted of the reserved words.
-/
import Derived.Test.YtmogmneaomndeaaDoorLexR
import Derived.Test.YtmogmneaomndeaaDoorLexV
set_option linter.unusedSimpArgs false
set_option linter.unusedVariables false
namespace Go.Proofs.YtmogmneaomndeaaDoor
open Go Go.Proofs Go.RowKit

def shT (d : Nat) (t : Tk) : Tk := ⟨t.k, t.t, t.a + (d : Int)⟩
theorem lines_math {a b : ByteArray} (h : a.size + b.size ≤ 500) :
    ((scR a).2.2 ≠ 0 → scR (a ++ (⟨#[10]⟩ : ByteArray) ++ b) = ([], (scR a).2.1, (scR a).2.2)) ∧
    ((scR a).2.2 = 0 → (scR b).2.2 ≠ 0 → scR (a ++ (⟨#[10]⟩ : ByteArray) ++ b) = ([], a.size + 1 + (scR b).2.1, (scR b).2.2)) ∧
    ((scR a).2.2 = 0 → (scR b).2.2 = 0 → (scR (a ++ (⟨#[10]⟩ : ByteArray) ++ b)).2 = (0, 0) ∧ (scR (a ++ (⟨#[10]⟩ : ByteArray) ++ b)).1 = (scR a).1.dropLast ++ (scR b).1.map (shT (a.size + 1)) ∧ (scR a).1 ≠ [] ∧ (scR b).1 ≠ []) := by
  have hb : bytes (a ++ (⟨#[10]⟩ : ByteArray) ++ b) = bytes a ++ 10 :: bytes b := by
    rw [bytes_app, bytes_app, List.append_assoc]; rfl
  have hz : (a ++ (⟨#[10]⟩ : ByteArray) ++ b).size = a.size + 1 + b.size := by
    rw [← bytes_length, hb, List.length_append, List.length_cons, bytes_length, bytes_length]; omega
  have ha6 : a.size ≤ 65536 := by omega
  have hb6 : b.size ≤ 65536 := by omega
  have hc6 : (a ++ (⟨#[10]⟩ : ByteArray) ++ b).size ≤ 65536 := by omega
  obtain ⟨g, hg⟩ : ∃ g, g = (bytes a ++ 10 :: bytes b).length + 1 := ⟨_, rfl⟩
  have hgl : (bytes a).length + 1 + (bytes b).length < g := by rw [hg, List.length_append, List.length_cons]; omega
  have hC : sqR (bytes (a ++ (⟨#[10]⟩ : ByteArray) ++ b)) = sq g 0 (bytes a ++ 10 :: bytes b) := by unfold sqR; rw [hb, hg]
  have hl := sq_line (bytes b) ((bytes a).length + 1) g 0 (bytes a) (Nat.lt_succ_self _) hgl
  rw [Nat.zero_add] at hl
  have hA : sq ((bytes a).length + 1) 0 (bytes a) = sqR (bytes a) := rfl
  rw [hA] at hl
  have hsh := (sq_shift ((bytes a).length + 1) g 0 (bytes b) (by omega)).1
  rw [Nat.zero_add, sq_fuel g ((bytes b).length + 1) 0 (bytes b) (by omega) (Nat.lt_succ_self _)] at hsh
  have hB : sq ((bytes b).length + 1) 0 (bytes b) = sqR (bytes b) := rfl
  rw [hB] at hsh
  rw [← hC] at hl
  have eA := scR_sq ha6; have eB := scR_sq hb6; have eC := scR_sq hc6
  have hA0 := (sq_shift 0 _ 0 (bytes a) (Nat.lt_succ_self _)).2
  have hB0 := (sq_shift 0 _ 0 (bytes b) (Nat.lt_succ_self _)).2
  have hend := (sq_ends _ 0 (bytes a) (Nat.lt_succ_self _)).1
  have hendB := (sq_ends _ 0 (bytes b) (Nat.lt_succ_self _)).1
  rw [hB] at hendB
  rw [hA] at hA0 hend
  rw [hB] at hB0
  rw [eA, eB, eC]
  clear eA eB eC hg hC hb hz hgl
  generalize sqR (bytes (a ++ (⟨#[10]⟩ : ByteArray) ++ b)) = RC at *
  generalize sq g ((bytes a).length + 1) (bytes b) = RS at *
  generalize sqR (bytes a) = RA at *
  generalize sqR (bytes b) = RB at *
  have hba : (bytes a).length = a.size := rfl
  rw [hba] at hsh
  refine ⟨fun h0 => ?_, fun h0 h1 => ?_, fun h0 h1 => ?_⟩
  · by_cases q : RA.2.2 = 0
    · rw [if_pos q] at h0; exact absurd q h0
    · rw [if_neg q] at hl
      rw [hl, if_neg q]
  · by_cases q : RA.2.2 = 0
    · rw [if_pos q] at hl
      by_cases p : RB.2.2 = 0
      · rw [if_pos p] at h1; exact absurd p h1
      · have e2 : RC.2 = (a.size + 1 + RB.2.1, RB.2.2) := by
          rw [hl, hsh, if_neg p]
          show (RB.2.1 + (a.size + 1), RB.2.2) = _
          rw [Nat.add_comm]
        rw [e2, if_neg p, if_neg p]
    · rw [if_neg q] at h0; exact absurd h0 q
  · by_cases q : RA.2.2 = 0
    · rw [if_pos q] at hl
      by_cases p : RB.2.2 = 0
      · have e2 : RC.2 = (0, 0) := by rw [hl, hsh, if_pos p, p]
        have e1 : RC.1 = RA.1.dropLast ++ RB.1.map (fun t => (t.1, t.2.1, t.2.2 + (a.size + 1))) := by rw [hl, hsh]
        rw [if_pos q, if_pos p, if_pos (by rw [e2])]
        refine ⟨e2, ?_, fun e => hend q (List.map_eq_nil_iff.1 e), fun e => hendB p (List.map_eq_nil_iff.1 e)⟩
        show RC.1.map toTk = (RA.1.map toTk).dropLast ++ (RB.1.map toTk).map (shT (a.size + 1))
        rw [e1, List.map_append, List.map_dropLast, List.map_map, List.map_map]
        refine congrArg _ (List.map_congr_left fun t _ => ?_)
        show (⟨t.1, str t.2.1, ((t.2.2 + (a.size + 1) : Nat) : Int)⟩ : Tk) = ⟨t.1, str t.2.1, (t.2.2 : Int) + ((a.size + 1 : Nat) : Int)⟩
        rw [Int.natCast_add]
      · rw [if_neg p] at h1; exact absurd h1 p
    · rw [if_neg q] at h0; exact absurd h0 q
theorem sq_off : ∀ (f a : Nat) (l : List UInt8), l.length < f → ∀ t ∈ (sq f a l).1, a ≤ t.2.2 ∧ t.2.2 ≤ a + l.length
  | 0, _, _, h, _, _ => by omega
  | f + 1, a, l, h, t, ht => by
    rcases sq_cases f a l with ⟨-, -, e⟩ | ⟨k, m, hk, hm, hne, hl, -, he, e⟩ | ⟨k, x, z, hk, hm, hx, hl, -, -, -, -, -, e⟩
    · rw [e] at ht
      have : t = (3, [], a + l.length) := by simpa using ht
      subst this
      exact ⟨by show a ≤ a + l.length; omega, Nat.le_refl _⟩
    · rw [e] at ht; cases ht
    · have hp : 0 < x.length := List.length_pos_iff.2 hx
      rw [e] at ht
      rcases List.mem_cons.1 ht with rfl | ht
      · exact ⟨by show a ≤ a + k; omega, by show a + k ≤ a + l.length; omega⟩
      · have := sq_off f (a + k + x.length) z (by omega) t ht
        omega
theorem scR_off {s : ByteArray} (h : s.size ≤ 65536) : (scR s).2.1 ≤ s.size ∧ ∀ t ∈ (scR s).1, 0 ≤ t.a ∧ t.a ≤ (s.size : Int) := by
  by_cases he : (scR s).2.2 = 0
  · obtain ⟨h0, h1, h2⟩ := scR_ok h he
    refine ⟨by rw [h2]; exact Nat.zero_le _, fun t ht => ?_⟩
    rw [h1] at ht
    obtain ⟨v, hv, rfl⟩ := List.mem_map.1 ht
    have := sq_off _ 0 (bytes s) (Nat.lt_succ_self _) v hv
    rw [bytes_length] at this
    show 0 ≤ (v.2.2 : Int) ∧ (v.2.2 : Int) ≤ _
    omega
  · obtain ⟨h0, h1, h2⟩ := scR_bad h he
    refine ⟨by omega, fun t ht => ?_⟩
    rw [h1] at ht; cases ht
theorem TRow.take {W : World} {ao : Option Addr} {c : Nat} {l : List Tk} (h : TRow W ao c l) (k : Nat) : TRow W ao c (l.take k) := by
  obtain ⟨h1, h2, h3⟩ := h
  refine ⟨by rw [List.length_take]; omega, h2, ?_⟩
  rcases h3 with rfl | ⟨b, o, e, hlt, hc⟩
  · exact .inl (by simp)
  · refine .inr ⟨b, o, e, hlt, fun j u hu => hc j u ?_⟩
    have hs : tkCells l = tkCells (l.take k) ++ tkCells (l.drop k) := by rw [← tkCells_append, List.take_append_drop]
    rw [hs, List.getElem?_append_left (List.getElem?_eq_some_iff.1 hu).1]
    exact hu
/-- The place behind the line feed. -/
theorem lines_place (a b : ByteArray) (h : a.size + b.size ≤ 500) : plR (a ++ (⟨#[10]⟩ : ByteArray) ++ b) ((a.size : Int) + 1) = (2 + (bytes a).count 10, 1, 0) := by
  have hb : bytes (a ++ (⟨#[10]⟩ : ByteArray) ++ b) = bytes a ++ 10 :: bytes b := by
    rw [bytes_app, bytes_app, List.append_assoc]; rfl
  have hz : (a ++ (⟨#[10]⟩ : ByteArray) ++ b).size = a.size + 1 + b.size := by
    rw [← bytes_length, hb, List.length_append, List.length_cons, bytes_length, bytes_length]; omega
  unfold plR
  rw [if_neg (by omega), if_neg (by omega), hb]
  have ht : (bytes a ++ 10 :: bytes b).take ((a.size : Int) + 1).toNat = bytes a ++ [10] := by
    have e : ((a.size : Int) + 1).toNat = (bytes a).length + 1 := by rw [bytes_length]; omega
    rw [e, List.take_append, List.take_of_length_le (by omega)]
    rw [show (bytes a).length + 1 - (bytes a).length = 1 by omega]; rfl
  rw [ht, lc_snoc, if_pos rfl, lc_line]
  show (1 + (bytes a).count 10 + 1, 1, 0) = _
  rw [show 1 + (bytes a).count 10 + 1 = 2 + (bytes a).count 10 by omega]

theorem wrap_int (z : Int) (h0 : 0 ≤ z) (h1 : z < 9223372036854775808) : IntKind.i64.wrap z = z ∧ wrap64 z = z := by
  have e : wrap64 z = z := by unfold wrap64; omega
  refine ⟨?_, e⟩
  exact (show IntKind.i64.wrap z = wrap64 z by unfold wrap64; exact IntKind.wrap_i64 _).trans e
theorem words_less : ∀ i, i < 18 → Op.bytesLess (wordsL.getD (i + 1) ⟨#[]⟩).toList (wordsL.getD i ⟨#[]⟩).toList = false := by decide +kernel
theorem nan_any (s : ByteArray) (w : World) : Calls Tryd.prog 87 #[.string s] w fun e w' => e = .returned (.bool false) ∧ w' = w := by
  go_enter Tryd.func87, Tryd.ntmps87
  go_wp2
  go_ret
  exact ⟨rfl, rfl⟩
theorem less_any (s t : ByteArray) (w : World) : Calls Tryd.prog 72 #[.string s, .string t] w fun e w' => e = .returned (.bool (Op.bytesLess s.toList t.toList)) ∧ w' = w := by
  have KN := Lib.hid (fun x W => nan_any x W)
  go_enter Tryd.func72, Tryd.ntmps72
  go_wp2_with (go_at_call 87; refine (KN.out _ _).mono ?_; rintro e w3 ⟨rfl, h⟩; subst h; refine Hid.out ?_)
  refine Lib.hid ?_
  go_wp2
  go_ret
  exact ⟨rfl, rfl⟩
set_option maxHeartbeats 400000 in
theorem sorted_any (b c : Nat) (w : World) (hr : WRow w b c wordsL) : Calls Tryd.prog 35 #[.slice (some ⟨b, 0, none⟩) 19 c] w fun e w' => e = .returned (.bool true) ∧ Below w.heap.size w w' := by
  have HR := Lib.hid hr; clear hr
  have KL := Lib.hid (fun x y W => less_any x y W)
  set_option maxRecDepth 20000 in
  go_enter Tryd.func35, Tryd.ntmps35
  go_wp2_with fail
  go_loopw [3] (fun iv wr => ∃ j : Nat, j ≤ 18 ∧ iv = .int .i64 (j : Int) ∧ Below w.heap.size w wr) (fun iv _ => (intOf iv).toNat)
  case atStart => exact ⟨18, Nat.le_refl _, rfl, Below.refl _ _⟩
  case round =>
    obtain ⟨j, hj, rfl, hB⟩ := hrel
    by_cases h0 : j = 0
    · subst h0
      have HB := Lib.hid hB; clear hB hj
      go_wp2
      go_ret
      exact ⟨rfl, HB.out⟩
    · obtain ⟨i, rfl⟩ : ∃ i, j = i + 1 := ⟨j - 1, by omega⟩
      have hw := words_less i (by omega)
      have hrow := HR.out.keep hB
      have hc1 := hrow.2.2.2 (i + 1) (by rw [wordsL_length]; omega)
      have hc2 := hrow.2.2.2 i (by rw [wordsL_length]; omega)
      generalize wordsL.getD (i + 1) ⟨#[]⟩ = x at *
      generalize wordsL.getD i ⟨#[]⟩ = y at *
      have hq := fun W => KL.out x y W
      rw [hw] at hq
      obtain ⟨j, hjj⟩ : ∃ j, j = i + 1 := ⟨_, rfl⟩
      rw [← hjj] at hc1
      have gp : decide ((0 : Int) < (j : Int)) = true := by rw [decide_eq_true_iff]; omega
      have gp2 : decide (0 < j) = true := by rw [decide_eq_true_iff]; omega
      have g0 : (0 : Int) ≤ (j : Int) := by omega
      have g1 : (j : Int) < 19 := by omega
      have i0 : (0 : Int) ≤ (i : Int) := by omega
      have i1 : (i : Int) < 19 := by omega
      have ej : wrap64 ((j : Int) - 1) = (i : Int) := by unfold wrap64; omega
      have ej2 : IntKind.i64.wrap ((j : Int) - 1) = (i : Int) := by rw [show (j : Int) - 1 = (i : Int) by omega]; exact (wrap_int _ i0 (by omega)).1
      rw [← hjj]
      have KQ := Lib.hid hq; have HB := Lib.hid hB; have HJ : Hid (j = i + 1 ∧ i + 1 ≤ 18) := Lib.hid ⟨hjj, hj⟩
      clear hq hw hB hrow h0 hj hjj
      go_wp2_with fail
      go_quiet (first | (go_at_call 72; refine Calls.quiet_of_same (KQ.out _)))
      go_wp2
      go_roundw
      case rel => exact ⟨i, by have := HJ.out; omega, (by first | rfl | exact congrArg (Value.int .i64) ej), below_drewN HB.out _⟩
      case measure => have := HJ.out; first | (rw [ej]; show ((i : Int)).toNat < ((j : Int)).toNat; omega) | (show ((i : Int)).toNat < ((j : Int)).toNat; omega)
end Go.Proofs.YtmogmneaomndeaaDoor
