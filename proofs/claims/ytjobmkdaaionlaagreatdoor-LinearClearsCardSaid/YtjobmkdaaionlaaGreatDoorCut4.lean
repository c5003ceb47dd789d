import Derived.Test.YtjobmkdaaionlaaGreatDoorShelfP
import Derived.Test.YtjobmkdaaionlaaGreatDoorCut1
import Derived.Test.YtjobmkdaaionlaaGreatDoorCut3
import Derived.Lib.Bytealg
import Derived.Test.YtjobmkdaaionlaaGreatDoorCut2
import Derived.RangeFuncNested
import Derived.Test.YtjobmkdaaionlaaGreatDoorOwnIter
import Derived.Lib.AppendIntMem

set_option linter.unusedVariables false
/-
  bigint: signs, digits, checks.
-/
namespace Go.Proofs.YtjobmkdaaionlaaGreatDoor
open Go Go.Proofs Go.RowKit
def str (l : List UInt8) : ByteArray := ⟨l.toArray⟩
theorem bytes_str (l : List UInt8) : bytes (str l) = l := by simp [bytes, str]
theorem str_bytes (s : ByteArray) : str (bytes s) = s := by simp [bytes, str]
theorem str_size (l : List UInt8) : (str l).size = l.length := by simp [str, ByteArray.size]
theorem isNegative_any (s : ByteArray) (w : World) :
    Calls Tryz.prog 203 #[.string s] w fun e w' => e = .returned (.bool (negB (bytes s))) ∧ w' = w := by
  have C : ∀ W : World, Calls Tryz.prog 224 #[.string s, .string ⟨#[45]⟩] W fun e w' => e = .returned (.bool (negB (bytes s))) ∧ w' = W := fun W => Tryz.strings_HasPrefix s ⟨#[45]⟩ W
  generalize negB (bytes s) = r at *
  go_enter Tryz.func203, Tryz.ntmps203
  go_wp2_with (go_at_call 224; refine (C _).mono ?_; rintro e w1 ⟨rfl, rfl⟩)
  go_ret
  exact ⟨rfl, rfl⟩
theorem digits_any (s : ByteArray) (w : World) :
    Calls Tryz.prog 153 #[.string s] w fun e w' => e = .returned (.string (str (digL (bytes s)))) ∧ w' = w := by
  have C : ∀ W : World, Calls Tryz.prog 88 #[.string s, .string ⟨#[45]⟩] W fun e w' => e = .returned (.string (str (digL (bytes s)))) ∧ w' = W := fun W => Tryz.strings_TrimPrefix s ⟨#[45]⟩ W
  generalize str (digL (bytes s)) = r at *
  go_enter Tryz.func153, Tryz.ntmps153
  go_wp2_with (go_at_call 88; refine (C _).mono ?_; rintro e w1 ⟨rfl, rfl⟩)
  go_ret
  exact ⟨rfl, rfl⟩
theorem isLong_any (s : ByteArray) (w : World) (hs : s.size ≤ 9223372036854775807) :
    Calls Tryz.prog 161 #[.string s] w fun e w' => e = .returned (.bool (decide (4096 < (digL (bytes s)).length))) ∧ w' = w := by
  have C := digits_any s
  rw [← str_size (digL (bytes s))]
  generalize str (digL (bytes s)) = r at *
  go_enter Tryz.func161, Tryz.ntmps161
  go_wp2_with (go_at_call 153; refine (C _).mono ?_; rintro e w1 ⟨rfl, rfl⟩)
  go_ret
  exact ⟨ret_bool (by simp; omega), rfl⟩
theorem isShort_any (s : ByteArray) (w : World) (hs : s.size ≤ 9223372036854775807) :
    Calls Tryz.prog 167 #[.string s] w fun e w' => e = .returned (.bool (decide ((digL (bytes s)).length ≤ 9))) ∧ w' = w := by
  have C := digits_any s
  rw [← str_size (digL (bytes s))]
  generalize str (digL (bytes s)) = r at *
  go_enter Tryz.func167, Tryz.ntmps167
  go_wp2_with (go_at_call 153; refine (C _).mono ?_; rintro e w1 ⟨rfl, rfl⟩)
  go_ret
  exact ⟨ret_bool (by simp; omega), rfl⟩
set_option maxHeartbeats 1000000 in
theorem isCanonical_any (s : ByteArray) (w : World) (hs : s.size ≤ 9223372036854775807) :
    Calls Tryz.prog 160 #[.string s] w fun e w' => e = .returned (.bool (canonB (bytes s))) ∧ w' = w := by
  have C := digits_any s
  have hb := bytes_str (digL (bytes s))
  have hcan : canonB (bytes s) = (!(digL (bytes s)).isEmpty && !((digL (bytes s)).head? == some 48 && decide (1 < s.size)) && (digL (bytes s)).all isDig) := rfl
  have hle : (digL (bytes s)).length ≤ s.size := by
    show _ ≤ (bytes s).length
    rcases neg_cases (bytes s) with ⟨-, h⟩ | ⟨-, h⟩
    · rw [congrArg List.length h]; simp
    · rw [h]; exact Nat.le_refl _
  generalize hr : str (digL (bytes s)) = r at *
  generalize hL : digL (bytes s) = L at *
  generalize canonB (bytes s) = q at *
  have hrs : L.length = r.size := by rw [← hb]; rfl
  have hrm : r.size ≤ 9223372036854775807 := by omega
  have HC := Lib.hid hcan; have HB := Lib.hid hb; have HCC := Lib.hid C
  clear hcan hb C hr hL
  by_cases h0 : r.size = 0
  · have hl0 : L = [] := List.length_eq_zero_iff.1 (by omega)
    have hrl : r.toList = [] := by rw [Lib.toList_data]; show bytes r = []; rw [HB.out, hl0]
    have hq : q = false := by rw [HC.out, hl0]; rfl
    subst hq
    clear hl0 hrs
    go_enter Tryz.func160, Tryz.ntmps160
    go_wp2_with (go_at_call 153; refine (HCC.out _).mono ?_; rintro e w1 ⟨rfl, rfl⟩)
    go_ret
    exact ⟨rfl, rfl⟩
  · have hrl : (r.toList == []) = false := by
      rw [Lib.toList_data]
      cases h : r.data.toList with
      | nil => exact absurd (congrArg List.length h) (by show ¬ r.size = 0; exact h0)
      | cons a t => rfl
    have hemp : L.isEmpty = false := by
      cases h : L with
      | nil => rw [h] at hrs; simp at hrs; omega
      | cons a t => rfl
    have hpos : 0 < r.size := by omega
    have hhead : (L.head? == some 48) = decide (byteAt r 0 = 48) := by
      unfold byteAt
      rw [HB.out]
      cases h : L with
      | nil => rw [h] at hrs; simp at hrs; omega
      | cons a t =>
        simp only [List.head?_cons, List.getD_cons_zero]
        rw [Bool.eq_iff_iff]
        simp only [beq_iff_eq, Option.some.injEq, decide_eq_true_eq]
        exact ⟨fun h => by rw [h]; rfl, fun h => by apply UInt8.toNat_inj.1; rw [h]; rfl⟩
    have hq : q = (!(decide (byteAt r 0 = 48) && decide (1 < s.size)) && L.all isDig) := by rw [HC.out, hemp, hhead]; rfl
    have HQ := Lib.hid hq
    have hgk := byteAt_get r 0 hpos
    clear hq hhead hemp hrs
    generalize hb0 : byteAt r 0 = b0 at *
    have HB0 := Lib.hid hb0; clear hb0
    by_cases hz : b0 = 48 ∧ 1 < s.size
    · have hqf : q = false := by rw [HQ.out]; simp [hz.1, hz.2]
      subst hqf
      obtain ⟨rfl, hz2⟩ := hz
      go_enter Tryz.func160, Tryz.ntmps160
      go_wp2_with (go_at_call 153; refine (HCC.out _).mono ?_; rintro e w1 ⟨rfl, rfl⟩)
      go_ret
      exact ⟨rfl, rfl⟩
    · have hq2 : q = (bytes r).all isDig := by
        rw [HQ.out, HB.out]
        have : (decide (b0 = 48) && decide (1 < s.size)) = false := by
          rw [Bool.and_eq_false_iff, decide_eq_false_iff_not, decide_eq_false_iff_not]
          omega
        rw [this]; rfl
      have HQ2 := Lib.hid hq2; clear hq2 HQ HC HB
      have hz' : b0 ≠ 48 ∨ (b0 = 48 ∧ ¬ 1 < s.size) := by omega
      clear hz hle
      rcases hz' with hz | ⟨rfl, hz⟩
      all_goals
        go_enter Tryz.func160, Tryz.ntmps160
        go_wp2_with (go_at_call 153; refine (HCC.out _).mono ?_; rintro e w1 ⟨rfl, rfl⟩)
        clear HCC hgk hrl
        go_loop [21] (fun iv => ∃ k : Nat, k ≤ r.size ∧ iv = .int .i64 k ∧ ((bytes r).take k).all isDig = true) (fun iv => r.size - (intOf iv).toNat)
        case atStart => exact ⟨0, Nat.zero_le _, rfl, rfl⟩
        case round =>
          obtain ⟨k, hk, rfl, hall⟩ := hrel
          by_cases hlt : k < r.size
          · have hgk := byteAt_get r k hlt
            have h1 := all_take_succ (bytes r) k hlt
            rw [isDig_byte r k hlt, hall] at h1
            have H1 := Lib.hid h1; have HALL := Lib.hid hall
            clear h1 hall
            generalize byteAt r k = b at *
            by_cases hd : 48 ≤ b ∧ b ≤ 57
            · obtain ⟨hd1, hd2⟩ := hd
              have e1 : (List.take (k + 1) (bytes r)).all isDig = true := by rw [H1.out]; simp [hd1, hd2]
              have E1 := Lib.hid e1; clear e1
              go_wp2
              go_round
              case rel => exact ⟨k + 1, by omega, by go_num, E1.out⟩
              case measure => simp [intOf]; omega
            · have e1 : q = false := by
                rw [HQ2.out]
                have h2 : ((bytes r).take (k + 1)).all isDig = false := by rw [H1.out]; simp; omega
                cases h3 : (bytes r).all isDig
                · rfl
                · rw [List.all_eq_true] at h3
                  rw [List.all_eq_true.2 (fun c hc => h3 c (List.mem_of_mem_take hc))] at h2
                  cases h2
              have E1 := Lib.hid e1; clear e1
              go_wp2
              all_goals first
                | (exfalso; omega)
                | (go_ret; exact ⟨ret_bool E1.out.symm, rfl⟩)
          · have hkn : k = r.size := by omega
            subst hkn
            rw [List.take_of_length_le (l := bytes r) (i := r.size) (Nat.le_refl r.size)] at hall
            have HALL := Lib.hid hall; clear hall
            go_wp2
            go_ret
            exact ⟨ret_bool (by rw [HQ2.out, HALL.out]), rfl⟩
set_option maxHeartbeats 1000000 in
theorem check_any (s : ByteArray) (w : World) (hs : s.size ≤ 9223372036854775807) :
    Calls Tryz.prog 138 #[.string s] w fun e w' => e = .returned (.int .i64 (errOf (bytes s) : Nat)) ∧ w' = w := by
  have C1 := fun W => isCanonical_any s W hs
  have C2 := fun W => isLong_any s W hs
  have he : errOf (bytes s) = if canonB (bytes s) = true then (if decide (4096 < (digL (bytes s)).length) = true then 10 else 0) else 3 := by
    unfold errOf; simp
  generalize errOf (bytes s) = e0 at *
  generalize canonB (bytes s) = c at *
  generalize decide (4096 < (digL (bytes s)).length) = d at *
  cases c
  · have : e0 = 3 := he
    subst this
    clear he C2
    go_enter Tryz.func138, Tryz.ntmps138
    go_wp2_with (go_at_call 160; refine (C1 _).mono ?_; rintro e w1 ⟨rfl, rfl⟩)
    go_ret
    exact ⟨rfl, rfl⟩
  · cases d
    · have : e0 = 0 := he
      subst this
      clear he
      go_enter Tryz.func138, Tryz.ntmps138
      go_wp2_with (first | (go_at_call 160; refine (C1 _).mono ?_; rintro e w1 ⟨rfl, rfl⟩) | (go_at_call 161; refine (C2 _).mono ?_; rintro e w1 ⟨rfl, rfl⟩))
      go_ret
      exact ⟨rfl, rfl⟩
    · have : e0 = 10 := he
      subst this
      clear he
      go_enter Tryz.func138, Tryz.ntmps138
      go_wp2_with (first | (go_at_call 160; refine (C1 _).mono ?_; rintro e w1 ⟨rfl, rfl⟩) | (go_at_call 161; refine (C2 _).mono ?_; rintro e w1 ⟨rfl, rfl⟩))
      go_ret
      exact ⟨rfl, rfl⟩
def errBoth (a b : List UInt8) : Nat := if errOf a = 0 then errOf b else errOf a
theorem errOf_cases (l : List UInt8) : errOf l = 0 ∨ errOf l = 3 ∨ errOf l = 10 := by
  unfold errOf; split
  · split <;> simp
  · simp
set_option maxHeartbeats 1000000 in
theorem checkBoth_any (s t : ByteArray) (w : World) (hs : s.size ≤ 9223372036854775807) (ht : t.size ≤ 9223372036854775807) :
    Calls Tryz.prog 166 #[.string s, .string t] w fun e w' => e = .returned (.int .i64 (errBoth (bytes s) (bytes t) : Nat)) ∧ w' = w := by
  have C1 := fun W => check_any s W hs
  have C2 := fun W => check_any t W ht
  have he : errBoth (bytes s) (bytes t) = if errOf (bytes s) = 0 then errOf (bytes t) else errOf (bytes s) := rfl
  have hc := errOf_cases (bytes s)
  generalize errBoth (bytes s) (bytes t) = e0 at *
  generalize errOf (bytes s) = c at *
  generalize errOf (bytes t) = d at *
  by_cases h0 : c = 0
  · subst h0
    rw [if_pos rfl] at he
    subst he
    clear hc
    go_enter Tryz.func166, Tryz.ntmps166
    go_wp2_with (go_at_call 138; refine (C1 _).mono ?_; rintro e w1 ⟨rfl, rfl⟩; refine Hid.out ?_)
    refine Lib.hid ?_
    go_wp2_with (go_at_call 138; refine (C2 _).mono ?_; rintro e w2 ⟨rfl, rfl⟩)
    go_ret
    exact ⟨rfl, rfl⟩
  · rw [if_neg h0] at he
    subst he
    have hc' : e0 = 3 ∨ e0 = 10 := by omega
    clear hc h0
    rcases hc' with rfl | rfl
    all_goals
      go_enter Tryz.func166, Tryz.ntmps166
      go_wp2_with (go_at_call 138; refine (C1 _).mono ?_; rintro e w1 ⟨rfl, rfl⟩)
      go_ret
      exact ⟨rfl, rfl⟩
end Go.Proofs.YtjobmkdaaionlaaGreatDoor

namespace Go.Proofs.YtjobmkdaaionlaaGreatDoor
open Go Go.Proofs
end Go.Proofs.YtjobmkdaaionlaaGreatDoor

namespace Go.Proofs.YtjobmkdaaionlaaGreatDoor
open Go Go.Proofs Go.RowKit
theorem digL_le (l : List UInt8) : (digL l).length ≤ l.length := by
  rcases neg_cases l with ⟨-, h⟩ | ⟨-, h⟩
  · rw [congrArg List.length h]; simp
  · rw [h]; exact Nat.le_refl _
theorem errBoth_cases (a b : List UInt8) : errBoth a b = 0 ∨ errBoth a b = 3 ∨ errBoth a b = 10 := by
  unfold errBoth; split
  · exact errOf_cases b
  · exact errOf_cases a
def Blk (w : World) (b : Nat) (l : List Nat) : Prop := ∃ R : List Value, w.heap[b]? = some (.cells (cellsOf l ++ R).toArray 156 (0, 0))
theorem Blk.lt {w : World} {b : Nat} {l : List Nat} (h : Blk w b l) : b < w.heap.size := by obtain ⟨R, h⟩ := h; exact lt_of_block h
theorem Blk.cell {w : World} {b : Nat} {l : List Nat} (h : Blk w b l) (k : Nat) (hk : k < l.length) : w.cell? ⟨b, k, none⟩ = some (.int .u32 (l.getD k 0 : Nat)) := by
  obtain ⟨R, h⟩ := h
  have e : w.cell? ⟨b, k, none⟩ = (cellsOf l ++ R).toArray[k]? := by simp [World.cell?, h]
  rw [e, ← cellsOf_get l k hk]
  simp only [List.getElem?_toArray]
  rw [List.getElem?_append_left (by rw [cellsOf_length]; exact hk)]
theorem Blk.frozen {w : World} {b : Nat} {l : List Nat} (h : Blk w b l) (k : Nat) : w.frozen? ⟨b, k, none⟩ = false := by
  obtain ⟨R, h⟩ := h; simp [World.frozen?, h]
theorem Blk.set {w : World} {b : Nat} {l : List Nat} (h : Blk w b l) (k n : Nat) : Blk (w.setCell ⟨b, k, none⟩ (.int .u32 (n : Int))) b (l.set k n) := by
  obtain ⟨R, h⟩ := h
  have hlt := lt_of_block h
  have h' : w.heap[b] = .cells (cellsOf l ++ R).toArray 156 (0, 0) := by simpa [Array.getElem?_eq_getElem hlt] using h
  have e : (w.setCell ⟨b, k, none⟩ (.int .u32 (n : Int))).heap[b]? = some (.cells ((cellsOf l ++ R).set k (.int .u32 (n : Int))).toArray 156 (0, 0)) := by
    show (w.heap.modify b _)[b]? = _
    rw [Array.getElem?_eq_getElem (by simpa using hlt), Array.getElem_modify_self, h']
    simp
  by_cases hk : k < l.length
  · refine ⟨R, ?_⟩
    rw [e, List.set_append_left _ _ (by rw [cellsOf_length]; exact hk)]
    simp [cellsOf, List.map_set]
  · refine ⟨R.set (k - (cellsOf l).length) (.int .u32 (n : Int)), ?_⟩
    rw [e, List.set_append_right _ _ (by rw [cellsOf_length]; omega), List.set_eq_of_length_le (l := l) (by omega)]
theorem Blk.keep {w w' : World} {b : Nat} {l : List Nat} {row : Option Nat} (h : Blk w b l) (hg : w.grownBy w' row) (hne : some b ≠ row) : Blk w' b l := by
  obtain ⟨R, h⟩ := h
  exact ⟨R, by rw [hg.block b (lt_of_block h) hne]; exact h⟩
theorem Blk.row {w : World} {b c : Nat} {l : List Nat} (h : Blk w b l) (hc : l.length ≤ c) (hm : c ≤ 9223372036854775807) : RowAt w (some ⟨b, 0, none⟩) c l :=
  ⟨hc, hm, .inr ⟨b, 0, rfl, h.lt, fun k hk => by rw [Nat.zero_add]; exact h.cell k hk⟩⟩
theorem blk_of_owns {w : World} {base g n c : Nat} {l : List Nat} (h : w.ownsRow base 156 1 (.slice (some ⟨g, 0, none⟩) n c) n (cellsOf l)) : Blk w g l ∧ l.length = n ∧ n ≤ c ∧ c ≤ 9223372036854775807 ∧ base ≤ g := by
  obtain ⟨h1, h2⟩ := h
  rw [cellsOf_length] at h1
  rcases h2 with ⟨h2, -⟩ | ⟨g', cap, cur, he, hb, hg, hle, hm, hs, ht⟩
  · simp at h2
  · injection he with e1 e2 e3
    injection e1 with e1; injection e1 with e1 _ _
    subst e1; subst e3
    refine ⟨⟨cur.toList.drop (n * 1), ?_⟩, by omega, hle, by unfold maxLen at hm; omega, hb⟩
    rw [hg, ← ht, List.take_append_drop]
theorem blk_of_made {w : World} {base g n : Nat} (h : w.ownsRow base 156 1 (.slice (some ⟨g, 0, none⟩) n n) n (madeCells #[Value.int .u32 0] n).toList) : Blk w g (List.replicate n 0) := by
  have e : (madeCells #[Value.int .u32 0] n).toList = cellsOf (List.replicate n 0) :=
    List.ext_getElem (by simp [cellsOf, madeCells]) fun i h3 h4 => by simp [cellsOf, madeCells, Nat.mod_one]
  rw [e] at h
  exact (blk_of_owns h).1
theorem grown_refl (w : World) (row : Option Nat) : w.grownBy w row := ⟨rfl, rfl, rfl, Nat.le_refl _, fun _ _ _ => rfl⟩
theorem grown_trans {a b c : World} {row : Option Nat} (h : a.grownBy b row) (k : b.grownBy c row) : a.grownBy c row :=
  ⟨k.os.trans h.os, k.tape.trans h.tape, k.output.trans h.output, Nat.le_trans h.size k.size, fun i hi hne => (k.block i (Nat.lt_of_lt_of_le hi h.size) hne).trans (h.block i hi hne)⟩
theorem grown_set {a w : World} {b : Nat} (h : a.grownBy w (some b)) (k : Nat) (v : Value) : a.grownBy (w.setCell ⟨b, k, none⟩ v) (some b) :=
  grown_trans h ⟨rfl, rfl, rfl, by simp [World.setCell], fun i _ hne => Below.heap_setCell _ _ _ _ (fun e => hne (by rw [e]))⟩
theorem grown_drew {a w : World} {row : Option Nat} (h : a.grownBy w row) (n : Nat) : a.grownBy (w.drewN n) row :=
  grown_trans h ⟨rfl, rfl, rfl, Nat.le_refl _, fun _ _ _ => rfl⟩
theorem grown_below {a w w' : World} {row : Option Nat} (h : a.grownBy w row) (k : Below w.heap.size w w') : a.grownBy w' row :=
  grown_trans h ⟨k.os, k.tape, k.output, k.size, fun i hi _ => k.block i hi⟩
theorem below_of_grown {a w : World} (h : a.grownBy w none) : Below a.heap.size a w :=
  ⟨h.os, h.tape, h.output, h.size, fun i hi => h.block i hi (by simp)⟩
theorem grown_of_below {a w : World} (h : Below a.heap.size a w) : a.grownBy w none :=
  ⟨h.os, h.tape, h.output, h.size, fun i hi _ => h.block i hi⟩
theorem below_grown {a w w' : World} {b : Nat} (h : Below a.heap.size a w) (k : w.grownBy w' (some b)) (hb : a.heap.size ≤ b) : Below a.heap.size a w' :=
  h.trans ⟨k.os, k.tape, k.output, k.size, fun i hi => k.block i (Nat.lt_of_lt_of_le hi h.size) (fun e => by injection e with e; omega)⟩
theorem gcell {a w : World} {row : Option Nat} (h : a.grownBy w row) {p : Addr} {v : Value} (hc : a.cell? p = some v) (hne : some p.block ≠ row) : w.cell? p = some v := h.cell hc hne
theorem gfree {a w : World} {row : Option Nat} (h : a.grownBy w row) {p : Addr} (hlt : p.block < a.heap.size) (hf : a.frozen? p = false) (hne : some p.block ≠ row) : w.frozen? p = false := by
  rw [World.frozen?_of_block (w := a) (h.block p.block hlt hne)]; exact hf
theorem RowAt.get {w : World} {b off c : Nat} {l : List Nat} (h : RowAt w (some ⟨b, off, none⟩) c l) (k : Nat) (hk : k < l.length) : w.cell? ⟨b, off + k, none⟩ = some (.int .u32 (l.getD k 0 : Nat)) := by
  rcases h.2.2 with ⟨h0, -⟩ | ⟨b', off', he, _, hc⟩
  · rw [h0] at hk; simp at hk
  · injection he with he; injection he with e1 e2 _
    subst e1; subst e2
    exact hc k hk
theorem RowAt.block {w : World} {b off c : Nat} {l : List Nat} (h : RowAt w (some ⟨b, off, none⟩) c l) (hne : l ≠ []) : b < w.heap.size := by
  rcases h.2.2 with ⟨h0, -⟩ | ⟨b', off', he, hlt, hc⟩
  · exact absurd h0 hne
  · injection he with he; injection he with e1 e2 _
    subst e1; exact hlt
theorem RowAt.addr {w : World} {ao : Option Addr} {c : Nat} {l : List Nat} (h : RowAt w ao c l) (hne : l ≠ []) : ∃ b off, ao = some ⟨b, off, none⟩ := by
  rcases h.2.2 with ⟨h0, -⟩ | ⟨b, off, he, _, _⟩
  · exact absurd h0 hne
  · exact ⟨b, off, he⟩
structure Three (w W : World) (v1 v2 v3 : Value) : Prop where
  size : W.heap.size = w.heap.size + 3
  c1 : W.cell? ⟨w.heap.size, 0, none⟩ = some v1
  c2 : W.cell? ⟨w.heap.size + 1, 0, none⟩ = some v2
  c3 : W.cell? ⟨w.heap.size + 1 + 1, 0, none⟩ = some v3
  f1 : W.frozen? ⟨w.heap.size, 0, none⟩ = false
  f2 : W.frozen? ⟨w.heap.size + 1, 0, none⟩ = false
  f3 : W.frozen? ⟨w.heap.size + 1 + 1, 0, none⟩ = false
  below : Below w.heap.size w W
theorem three_new (w : World) (v1 v2 v3 : Value) (t1 t2 t3 : TypeId) : Three w (((w.alloc (Obj.cells #[v1] t1)).alloc (Obj.cells #[v2] t2)).alloc (Obj.cells #[v3] t3)) v1 v2 v3 :=
  ⟨by simp, by go_cell, by go_cell, by go_cell, by go_cell, by go_cell, by go_cell, by go_grown⟩
theorem RowAt.box {w : World} {ao : Option Addr} {c : Nat} {l : List Nat} (h : RowAt w ao c l) {p : Addr} {so : Option Addr} {n m : Nat} (hp : w.cell? p = some (.slice so n m)) (u : Value) : RowAt (w.setCell p u) ao c l := by
  obtain ⟨h1, h2, h3⟩ := h
  refine ⟨h1, h2, ?_⟩
  rcases h3 with h3 | ⟨b, off, he, hlt, hc⟩
  · exact .inl h3
  · refine .inr ⟨b, off, he, by simpa [World.setCell] using hlt, fun k hk => ?_⟩
    have h4 := hc k hk
    rw [World.cell?_setCell_other (h := fun e => by rw [e, h4] at hp; simp at hp)]
    exact h4
theorem trimmed_at (l : List Nat) (n : Nat) (ao : Option Addr) (c : Nat) (w : World) (hn : l.length = n) (hr : RowAt w ao c l) (hs : Small l) :
    Calls Tryz.prog 205 #[.slice ao n c] w (RetN (val l) w) := by
  subst hn; exact trimmed_any l ao c w hr hs
structure Boxes (w W : World) (v1 v2 v3 : Value) : Prop where
  lt : w.heap.size + 1 + 1 < W.heap.size
  c1 : W.cell? ⟨w.heap.size, 0, none⟩ = some v1
  c2 : W.cell? ⟨w.heap.size + 1, 0, none⟩ = some v2
  c3 : W.cell? ⟨w.heap.size + 1 + 1, 0, none⟩ = some v3
  f1 : W.frozen? ⟨w.heap.size, 0, none⟩ = false
  f2 : W.frozen? ⟨w.heap.size + 1, 0, none⟩ = false
  f3 : W.frozen? ⟨w.heap.size + 1 + 1, 0, none⟩ = false
  below : Below w.heap.size w W
theorem Three.boxes {w W : World} {v1 v2 v3 : Value} (h : Three w W v1 v2 v3) : Boxes w W v1 v2 v3 :=
  ⟨by rw [h.size]; omega, h.c1, h.c2, h.c3, h.f1, h.f2, h.f3, h.below⟩
theorem Boxes.mono {w W W' : World} {v1 v2 v3 : Value} (h : Boxes w W v1 v2 v3) (k : Below W.heap.size W W') : Boxes w W' v1 v2 v3 := by
  have hl := h.lt
  exact ⟨Nat.lt_of_lt_of_le h.lt k.size, (k.cell (p := ⟨w.heap.size, 0, none⟩) (by simp; omega)).trans h.c1, (k.cell (p := ⟨w.heap.size + 1, 0, none⟩) (by simp; omega)).trans h.c2, (k.cell (p := ⟨w.heap.size + 1 + 1, 0, none⟩) (by simp; omega)).trans h.c3,
    (k.frozen (p := ⟨w.heap.size, 0, none⟩) (by simp; omega)).trans h.f1, (k.frozen (p := ⟨w.heap.size + 1, 0, none⟩) (by simp; omega)).trans h.f2, (k.frozen (p := ⟨w.heap.size + 1 + 1, 0, none⟩) (by simp; omega)).trans h.f3, Below.chain h.below k⟩
theorem Boxes.grown {w W W' : World} {v1 v2 v3 : Value} {b : Nat} (h : Boxes w W v1 v2 v3) (k : W.grownBy W' (some b)) (hb : w.heap.size + 1 + 1 < b) : Boxes w W' v1 v2 v3 := by
  have hl := h.lt
  exact ⟨Nat.lt_of_lt_of_le h.lt k.size, gcell k h.c1 (by simp; omega), gcell k h.c2 (by simp; omega), gcell k h.c3 (by simp; omega),
    gfree k (by simp; omega) h.f1 (by simp; omega), gfree k (by simp; omega) h.f2 (by simp; omega), gfree k (by simp; omega) h.f3 (by simp; omega), below_grown h.below k (by omega)⟩
theorem Boxes.swap {w W : World} {v1 v2 v3 : Value} (h : Boxes w W v1 v2 v3) (u1 u2 : Value) : Boxes w ((W.setCell ⟨w.heap.size, 0, none⟩ u1).setCell ⟨w.heap.size + 1, 0, none⟩ u2) u1 u2 v3 := by
  have hl := h.lt
  refine ⟨by simpa [World.setCell] using hl, ?_, ?_, ?_, ?_, ?_, ?_, ?_⟩
  · rw [World.cell?_setCell_other (h := by simp)]; exact cellSet h.c1 _
  · exact cellSet (u := v2) (by rw [World.cell?_setCell_other (h := by simp)]; exact h.c2) _
  · rw [World.cell?_setCell_other (h := by simp), World.cell?_setCell_other (h := by simp)]; exact h.c3
  · rw [World.frozen?_setCell, World.frozen?_setCell]; exact h.f1
  · rw [World.frozen?_setCell, World.frozen?_setCell]; exact h.f2
  · rw [World.frozen?_setCell, World.frozen?_setCell]; exact h.f3
  · exact (h.below.setCell (p := ⟨w.heap.size, 0, none⟩) (Nat.le_refl _) _).setCell (p := ⟨w.heap.size + 1, 0, none⟩) (by simp) _
end Go.Proofs.YtjobmkdaaionlaaGreatDoor

namespace Go.Proofs.YtjobmkdaaionlaaGreatDoor
open Go Go.Proofs Go.RowKit Go.Shelf
attribute [local go_sem] Oper.semAt_some
set_option maxHeartbeats 1000000 in
theorem limbsOf_any (s : ByteArray) (w : World) :
    Calls Tryz.prog 216 #[.string s] w fun e w' => e = .returned (.func (.func 227) #[] #[.pointer (some ⟨w.heap.size, 0, none⟩)]) ∧ w' = w.alloc (.cells #[.string s] 9) := by
  go_enter Tryz.func216, Tryz.ntmps216
  go_wp2
  go_ret
  exact ⟨rfl, rfl⟩
theorem iter_stops (n : Nat) (hn : 1 ≤ n) (Bn : Nat) (s : ByteArray) (hs : s.size ≤ 9223372036854775807) (hd : AllDig (bytes s)) (w : World) (hBn : Bn < w.heap.size) (hc : w.cell? ⟨Bn, 0, none⟩ = some (.string s)) :
    SeqStopsK Fence.wide n Tryz.prog 227 #[.pointer (some ⟨Bn, 0, none⟩)] (fun x : Nat => #[Value.int .u32 ((x : Nat) : Int)]) (KBlk Bn) (fun ys => ys = chunks (bytes s)) (fun pre => pre <+: chunks (bytes s)) (chunks (bytes s)).length w := fun l J Jx W hW _ _ hY h0 =>
  iter_in n hn l Bn s hs hd J Jx hY W ((hW.cell (p := ⟨Bn, 0, none⟩) hBn).trans hc) h0
theorem RowAt.put {W : World} {D : Nat} {x : Option (List Deferred)} (hK : W.heap[D]? = some (.deferred x)) (o : Obj) {ao : Option Addr} {c : Nat} {l : List Nat} (h : RowAt W ao c l) : RowAt (W.putObj D o) ao c l := by
  obtain ⟨h1, h2, h3⟩ := h
  refine ⟨h1, h2, ?_⟩
  rcases h3 with h3 | ⟨b, off, he, hlt, hc⟩
  · exact .inl h3
  · refine .inr ⟨b, off, he, by simpa using hlt, fun k hk => ?_⟩
    have h4 := hc k hk
    have hne : b ≠ D := fun e => by subst e; simp [World.cell?, hK] at h4
    rw [World.cell?_of_block (w := W) (a := ⟨b, off + k, none⟩) (World.putObj_heap_other hne)]
    exact h4
set_option maxRecDepth 100000 in
set_option maxHeartbeats 2000000 in
theorem parse_good (s : ByteArray) (w : World) (hs : s.size ≤ 1000000000000) (hd : digB (bytes s) = true) :
    Calls Tryz.prog 198 #[.string s] w fun e w' => ∃ v, e = .returned (.tuple #[v, .bool true]) ∧ NumAt w' v (dec (bytes s)) ∧ Below w.heap.size w w' := by
  obtain ⟨i0, hi, hz0, hz1, hz2⟩ := info_parts infoU32
  have hall := allDigits_any s
  rw [hd] at hall
  have HALL := Lib.hid hall
  have hdg : AllDig (bytes s) := fun c hc => by
    unfold digB at hd
    rw [Bool.and_eq_true] at hd
    exact List.all_eq_true.1 hd.2 c hc
  have HD := Lib.hid hdg
  clear hall hd hdg
  refine (callsIn_wide (n := 3)).1 ?_
  refine callsIn_of_wp_marks Tryz.func198 rfl trivial ?_ rfl
  simp only [Tryz.ntmps198, List.size_toArray, List.length_cons, List.length_nil, Nat.reduceAdd, Nat.reduceSub, Array.replicate_succ, Array.replicate_zero, List.push_toArray, List.append_toArray, List.nil_append, List.cons_append]
  gi_wp2_with fail
  refine ⟨trivial, (callsIn_wide.2 (HALL.out _ (by omega))).mono ?_⟩
  rintro e w' ⟨rfl, rfl⟩
  gi_wp2_with (gi_at_make; refine wpListIn_make_own _ rfl _ _ 171 rfl (w.heap.size + 1) 156 i0 (.int .u32 0) 1 Tryz.underlying171 hi hz0 hz1 .i64 .i64 _ (s.size / 9 + 1) rfl rfl ?a1 ?a2 ?a3 ?a4 ?_)
  case a1 => omega
  case a2 => rw [hz2]; omega
  case a3 => unfold maxLen; omega
  case a4 => simp
  intro W1 hown hg
  have hbx0 : Boxed W1 w.heap.size 173 (.slice none 0 0) := (Boxed.new w 173 (.slice none 0 0)).kept hg (by simp)
  have hB1 : Below w.heap.size w W1 := Below.chain ((Below.refl w.heap.size w).alloc (Nat.le_refl _) _) (below_of_grown hg)
  have hsz1 : w.heap.size + 1 < W1.heap.size := by
    rcases hown.2 with ⟨h, _⟩ | ⟨g', cap, cur, he, hb, hgb, _⟩
    · simp at h
    · injection he with he _ _; injection he with he; injection he with he _ _
      have := (Array.getElem?_eq_some_iff.1 hgb).1
      omega
  have HOWN := Lib.hid hown; have HBX0 := Lib.hid hbx0; have HB1 := Lib.hid hB1
  clear hown hg hbx0 hB1
  gi_wp2_with fail
  refine ⟨trivial, (callsIn_wide.2 (limbsOf_any s _)).mono ?_⟩
  rintro e w' ⟨rfl, rfl⟩
  gi_wp2_with fail
  have bO := Boxed.new W1 171 (.slice (some ⟨w.heap.size + 1, 0, none⟩) 0 (s.size / 9 + 1))
  have bN := Boxed.new (W1.alloc (.cells #[.slice (some ⟨w.heap.size + 1, 0, none⟩) 0 (s.size / 9 + 1)] 171)) 9 (.string s)
  rw [World.size_alloc] at bN
  have hch := chunks_facts _ (bytes s) rfl HD.out
  rw [bytes_length] at hch
  obtain ⟨hch1, hch2, hch3⟩ := hch
  have HCH1 := Lib.hid hch1; have HCH2 := Lib.hid hch2
  clear hch1 hch2
  have hB2 : Below w.heap.size w ((W1.alloc (.cells #[.slice (some ⟨w.heap.size + 1, 0, none⟩) 0 (s.size / 9 + 1)] 171)).alloc (.cells #[.string s] 9)) :=
    (HB1.out.alloc HB1.out.size _).alloc (by simp; have := HB1.out.size; omega) _
  refine wpIn_rangeFunc_ownG rfl (by omega) (gf := 227) (lb := #[.pointer (some ⟨W1.heap.size + 1, 0, none⟩)]) rfl trivial (enters_of Tryz.func227 (by kernel_rfl) rfl)
    (iter_stops 2 (by omega) (W1.heap.size + 1) s (by omega) HD.out _ (by simp) bN.cell) (fun {A B C} h k => k.trans h) ?hKb (Below.refl _ _) (fun _ => rfl)
    (fun pre W => (∃ v, Boxed W W1.heap.size 171 v ∧ W.ownsRow (w.heap.size + 1) 156 1 v pre.length (cellsOf pre) ∧ True) ∧ Boxed W w.heap.size 173 (.slice none 0 0) ∧ Boxed W (W1.heap.size + 1) 9 (.string s) ∧ Below w.heap.size w W)
    (fun _ _ _ => False)
    (OwnFrom.and (Own.from (holdsRow_own (w.heap.size + 1) W1.heap.size 171 156 1 (fun pre : List Nat => pre.length) (fun pre => cellsOf pre) (fun _ _ => True)) _) (OwnFrom.and (Own.from (boxed_own w.heap.size 173 (fun _ => .slice none 0 0)) _) (OwnFrom.and (Own.from (boxed_own (W1.heap.size + 1) 9 (fun _ => .string s)) _) (ownFrom_below (Nat.le_refl _) (by simp; have := HB1.out.size; omega)))))
    (fun _ _ _ _ _ hs _ _ => hs)
    ⟨⟨_, bO.alloc _, (HOWN.out.alloc _).alloc _, trivial⟩, (HBX0.out.alloc _).alloc _, bN, hB2⟩
    (fun x => { tmps := #[.string s, undef, .pointer (some ⟨w.heap.size, 0, none⟩), .bool false, .pointer (some ⟨W1.heap.size, 0, none⟩), .int .u32 ((x : Nat) : Int), .string s, .bool true, .bool false, undef, .string s, .int .i64 (s.size : Int), .int .i64 ((s.size : Int) / 9), .int .i64 ((s.size : Int) / 9 + 1),
      .slice (some ⟨w.heap.size + 1, 0, none⟩) 0 (s.size / 9 + 1), .string s, .func (.func 227) #[] #[.pointer (some ⟨W1.heap.size + 1, 0, none⟩)], .int .u32 ((x : Nat) : Int), undef, undef, undef, undef, undef, undef], defers := [] }) ?assign ?body ?done ?stop
  case hKb =>
    intro W l o o' hl _ _ _
    exact World.putObj_heap_other (by simp at hl; omega)
  case assign =>
    intro l x W K hK
    gi_wp2
    exact hK
  case body =>
    rintro l pre x W ⟨⟨v, hv, hrow, -⟩, hbx, hst, hB⟩ hlt
    have hc := hv.cell
    have hf := hv.frozen
    have hWs := hv.lt
    have h1s := HB1.out.size
    gi_wp2_with (gi_at_builtin; refine wpListIn_append_own _ rfl _ _ 171 rfl (w.heap.size + 1) 156 i0 (.int .u32 0) 1 4 Tryz.underlying171 hi hz0 hz1 hz2 rfl (by decide) _ _ _ rfl (hrow.alloc _) ⟨W.heap.size, 0, none⟩ 1 1 [.int .u32 (x : Int)] rfl rfl (cell_one_new _ _ _) (by simp [Value.oneCell']) (by unfold maxLen; omega) (by omega) (by simp; omega) ?_; intro v' w1 hown' hgrow _; obtain ⟨g', cap', rfl⟩ := ownsRow_succ hown'; obtain ⟨hv1, hv2, hr2, hk2, hb2⟩ := hv.appended (by decide) hrow (by omega) (by omega) hown' hgrow; have hc1 := hv1.cell; have hf1 := hv1.frozen)
    have hbx1 := ((hbx.alloc _).kept hgrow (hbx.not_row (by decide) hrow)).other (B' := W1.heap.size) (by omega) (Value.slice (some { block := g', off := 0 }) (pre.length + 1) cap')
    have hst1 := ((hst.alloc _).kept hgrow (hst.not_row (by decide) hrow)).other (B' := W1.heap.size) (by omega) (Value.slice (some { block := g', off := 0 }) (pre.length + 1) cap')
    refine ⟨hk2.from _, hst1.trans hst.symm, ⟨_, hv2, ?_, trivial⟩, hbx1, hst1, hB.trans (hb2.mono (by omega))⟩
    rw [List.length_append, cellsOf_append]
    exact hr2
  case done =>
    rintro D ys W hD rfl ⟨⟨v, hv, hrow, -⟩, hbx, hst, hB⟩ hK
    have hc := hv.cell
    obtain ⟨ao, c, rfl, hra⟩ := row_of_owns hrow
    have hcb := hbx.cell
    have hfb := hbx.frozen
    have HRA := Lib.hid hra; have HB := Lib.hid hB
    clear hra hB hrow
    gi_wp2_with fail
    refine ⟨trivial, (callsIn_wide.2 (trimmed_any (chunks (bytes s)) ao c W HRA.out HCH1.out)).mono ?_⟩
    rintro e w2 ⟨v2, rfl, hv2, hb2⟩
    obtain ⟨a2, c2, rfl, hr2⟩ := hv2
    have hbx2 : Boxed w2 w.heap.size 173 (.slice none 0 0) := hbx.kept (grown_of_below hb2) (by simp)
    have hK2 : w2.heap[D]? = some (.deferred (some [])) := (hb2.block D (Array.getElem?_eq_some_iff.1 hK).1).trans hK
    have hcb2 := hbx2.cell
    have hfb2 := hbx2.frozen
    have HB2 := Lib.hid (Below.chain HB.out hb2); have HR2 := Lib.hid hr2
    clear hb2 hr2 hcb hfb hc
    gi_wp2
    have hDne : D ≠ w.heap.size := by simp at hD; have := HB1.out.size; omega
    have hK3 : (w2.setCell ⟨w.heap.size, 0, none⟩ (.slice a2 (limbs (val (chunks (bytes s)))).length c2)).heap[D]? = some (.deferred (some [])) := (Below.heap_setCell _ _ _ _ hDne).trans hK2
    refine ⟨by simp, .inl ⟨_, _, rfl, run_takeDeferred hK3, ?_⟩⟩
    have hc3 : ((w2.setCell ⟨w.heap.size, 0, none⟩ (.slice a2 (limbs (val (chunks (bytes s)))).length c2)).putObj D (.deferred none)).cell? ⟨w.heap.size, 0, none⟩ = some (.slice a2 (limbs (val (chunks (bytes s)))).length c2) := by
      rw [World.cell?_of_block (w := w2.setCell ⟨w.heap.size, 0, none⟩ (.slice a2 (limbs (val (chunks (bytes s)))).length c2)) (a := ⟨w.heap.size, 0, none⟩) (World.putObj_heap_other hDne.symm)]
      exact cellSet hcb2 _
    refine ⟨.tuple #[.agg #[.slice a2 (limbs (val (chunks (bytes s)))).length c2], .bool true], by simp [results, Tryz.results198, go_sem, hc3], _, rfl, ⟨a2, c2, by rw [HCH2.out], ?_⟩, ?_⟩
    · rw [← HCH2.out]; exact RowAt.put hK3 _ (HR2.out.box hcb2 _)
    · exact (HB2.out.setCell (p := ⟨w.heap.size, 0, none⟩) (Nat.le_refl _) _).trans (belowK_b (w := w) (Nat.le_refl _) _ D _ _ (by simp at hD; have := HB1.out.size; omega) hK3 rfl rfl)
  case stop =>
    rintro D c pre W _ _ h _
    exact h.elim
end Go.Proofs.YtjobmkdaaionlaaGreatDoor

namespace Go.Proofs.YtjobmkdaaionlaaGreatDoor
open Go Go.Proofs Go.RowKit
def pre (u j : Nat) : List UInt8 := (List.range j).map fun i => UInt8.ofNat (48 + u / (100000000 / 10 ^ i) % 10)
theorem pre_length (u j : Nat) : (pre u j).length = j := by simp [pre]
theorem pre_succ (u j : Nat) : pre u (j + 1) = pre u j ++ [UInt8.ofNat (48 + u / (100000000 / 10 ^ j) % 10)] := by
  simp [pre, List.range_succ]
theorem pre_dig (u j : Nat) : AllDig (pre u j) := by
  intro c hc
  simp only [pre, List.mem_map, List.mem_range] at hc
  obtain ⟨i, -, rfl⟩ := hc
  exact isDig_ofNat _ (Nat.mod_lt _ (by decide))
theorem dec_pre (u : Nat) (hu : u < 1000000000) : dec (pre u 9) = u := by
  simp only [pre_succ, dec_snoc]
  have e : dec (pre u 0) = 0 := rfl
  rw [e]
  simp only [toNat_dig _ (Nat.mod_lt _ (by decide : 0 < 10))]
  simp only [Nat.reducePow, Nat.reduceDiv]
  omega
theorem infoU8 : (Tryz.prog.info? 5).map (fun i => (i.zero, i.size, i.bytes)) = some (some (.int .u8 0), 1, 1) := by kernel_rfl
theorem byteCells_append (a b : List UInt8) : Lib.byteCells (a ++ b) = Lib.byteCells a ++ Lib.byteCells b := by simp [Lib.byteCells]
theorem byteCells_length (a : List UInt8) : (Lib.byteCells a).length = a.length := by simp [Lib.byteCells]
theorem unit_pos : ∀ j, j < 9 → 0 < 100000000 / 10 ^ j := by decide
theorem unit_next : ∀ j, j < 9 → 100000000 / 10 ^ j / 10 = 100000000 / 10 ^ (j + 1) := by decide
theorem unit_le (j : Nat) : 100000000 / 10 ^ j ≤ 100000000 := Nat.div_le_self _ _
theorem digit_cell (u k j : Nat) (hu : u < 1000000000) (hk : 0 < k) (he : k = 100000000 / 10 ^ j) :
    [Value.int .u8 (48 + (u : Int) / (k : Int) % 4294967296 % 10)] = Lib.byteCells [UInt8.ofNat (48 + u / (100000000 / 10 ^ j) % 10)] := by
  subst he
  have h1 : u / (100000000 / 10 ^ j) ≤ u := Nat.div_le_self _ _
  simp only [Lib.byteCells, List.map_cons, List.map_nil]
  rw [toNat_dig _ (Nat.mod_lt _ (by decide))]
  congr 2
  generalize 100000000 / 10 ^ j = k at *
  rw [← Int.natCast_ediv]
  generalize u / k = q at *
  omega
set_option maxHeartbeats 1000000 in
theorem appendLimb_own (B n u : Nat) (hu : u < 1000000000) (sv : Value) (xs : List Value) (w : World) (hown0 : w.ownsRow B 5 1 sv n xs) (hB : B ≤ w.heap.size) (hlim : n + 20 ≤ 140737488355328) :
    Calls Tryz.prog 200 #[sv, .int .u32 u] w fun e w' => ∃ v', e = .returned v' ∧ w'.ownsRow B 5 1 v' (n + 9) (xs ++ Lib.byteCells (pre u 9)) ∧ Below B w w' := by
  obtain ⟨i0, hi, hz0, hz1, hz2⟩ := info_parts infoU8
  have HU := Lib.hid hu; clear hu
  go_enter Tryz.func200, Tryz.ntmps200
  go_wp2_with fail
  go_loopw [0, 5] (fun v m wr => ∃ j k : Nat, j ≤ 9 ∧ k = 100000000 / 10 ^ j ∧ m = .int .u32 k ∧ wr.ownsRow B 5 1 v (n + j) (xs ++ Lib.byteCells (pre u j)) ∧ Below B w wr) (fun _ m _ => (intOf m).toNat)
  case atStart => exact ⟨0, 100000000, by omega, rfl, rfl, by simpa [pre, Lib.byteCells] using hown0, Below.refl _ _⟩
  case round =>
    obtain ⟨j, k, hj, hk, rfl, hown, hbw⟩ := hrel
    by_cases hj9 : j = 9
    · have hk0 : k = 0 := by rw [hk, hj9]
      have hkn : decide (0 < k) = false := by simp; omega
      clear hk
      go_wp2
      subst hj9
      refine bodyPost_ret (v := u0) (by simp [results, Tryz.results200, go_sem]) rfl ⟨_, rfl, hown, hbw⟩
    · have hk1 : 0 < k := by have := unit_pos j (by omega); omega
      have hkle : k ≤ 100000000 := by have := unit_le j; omega
      have HK := Lib.hid hk; clear hk
      go_wp2_with (at_builtin; refine wpList_append_own _ rfl _ _ 170 rfl B 5 i0 (.int .u8 0) 1 1 Tryz.underlying170 hi hz0 hz1 hz2 rfl (by decide) _ _ _ rfl (hown.alloc _) ⟨wr.heap.size, 0, none⟩ 1 1 [.int .u8 (48 + (u : Int) / (k : Int) % 4294967296 % 10)] rfl rfl ?c1 ?c2 ?c3 ?c4 ?c5 ?_)
      case c1 => intro j u hj; match j, hj with | 0, hj => (simp at hj; subst hj; simp [Addr.add])
      case c2 => intro u hu; simp at hu; subst hu; rfl
      case c3 => unfold maxLen; omega
      case c4 => omega
      case c5 => have := hbw.size; simp; omega
      intro v' w1 hown' hgrow _
      go_wp2
      go_roundw
      case rel =>
        refine ⟨j + 1, k / 10, by omega, ?_, ?_, ?_, ?_⟩
        · rw [HK.out]; exact unit_next j (by omega)
        · exact congrArg (Value.int .u32) (by omega)
        · rw [pre_succ, byteCells_append, ← Nat.add_assoc, ← digit_cell u k j HU.out hk1 HK.out]
          exact hown'
        · exact hbw.trans (((Below.refl _ _).alloc (by have := hbw.size; omega) _).grown hgrow (by have := hbw.size; simp; omega) (fun k hk => ((hown.lt k hk)).1))
      case measure => simp only [intOf]; omega
set_option maxHeartbeats 1000000 in
theorem appendUint_own (B n u : Nat) (hu : u < 1000000000) (sv : Value) (xs : List Value) (w : World) (hown0 : w.ownsRow B 5 1 sv n xs) (hB : B ≤ w.heap.size) (hlim : n + 20 ≤ 140737488355328) (htab : Lib.TabIs Tryz.prog w "internal/strconv.uint64pow10" .u64 Lib.pow10Tab) :
    Calls Tryz.prog 199 #[sv, .int .u64 u, .int .i64 10] w fun e w' => ∃ v', e = .returned v' ∧ w'.ownsRow B 5 1 v' (n + (Lib.decDigits u).length) (xs ++ Lib.byteCells (Lib.decDigits u)) ∧ Below B w w' := by
  have C : Calls Tryz.prog 217 #[sv, .int .u64 u, .int .i64 10] w fun e w' => ∃ v', e = .returned v' ∧ w'.ownsRow B 5 1 v' (n + (Lib.decDigits u).length) (xs ++ Lib.byteCells (Lib.decDigits u)) ∧ Below B w w' := by
    by_cases h : u < 100
    · exact (Tryz.internal_strconv_AppendUint_10_small B n u h sv xs w hown0 hB hlim).mono fun e w' ⟨v', h1, h2, h3, _⟩ => ⟨v', h1, h2, h3⟩
    · exact (Tryz.internal_strconv_AppendUint_10_big B n u (by omega) (by omega) sv xs w hown0 hB hlim htab).mono fun e w' ⟨v', h1, h2, h3, _⟩ => ⟨v', h1, h2, h3⟩
  clear hown0 htab
  go_enter Tryz.func199, Tryz.ntmps199
  go_wp2_with (go_at_call 217; refine C.mono ?_; rintro e w1 ⟨v1, rfl, hown1, hnx1⟩; refine Hid.out ?_)
  refine Lib.hid ?_
  go_wp2
  go_ret
  exact ⟨_, rfl, hown1, hnx1⟩
theorem text_step (l : List Nat) (i : Nat) (h : i < l.length) (hs : Small l) (hpos : val (l.drop (i + 1)) ≠ 0) :
    Lib.decDigits (val (l.drop i)) = Lib.decDigits (val (l.drop (i + 1))) ++ pre (l.getD i 0) 9 := by
  have hd : AllDig (Lib.decDigits (val (l.drop (i + 1))) ++ pre (l.getD i 0) 9) := (allDig_decDigits _).append (pre_dig _ _)
  have hne : Lib.decDigits (val (l.drop (i + 1))) ++ pre (l.getD i 0) 9 ≠ [] := by
    intro e; exact decDigits_ne_nil _ (List.append_eq_nil_iff.1 e).1
  have hv : dec (Lib.decDigits (val (l.drop (i + 1))) ++ pre (l.getD i 0) 9) = val (l.drop i) := by
    rw [dec_append, dec_decDigits, pre_length, dec_pre _ (hs.getD i), List.drop_eq_getElem_cons h, val_cons, getD_lt l i h]
    omega
  rw [← hv]
  refine (eq_decDigits hd hne (.inr ?_)).symm
  rw [List.head_append_of_ne_nil (decDigits_ne_nil _)]
  exact decDigits_head _ hpos
theorem drop_pos (l : List Nat) (hn : Norm l) (i : Nat) (h : i < l.length) : val (l.drop i) ≠ 0 := by
  have hne : l.drop i ≠ [] := by simp; omega
  have hn' : Norm (l.drop i) := by
    intro h'
    rw [List.getLast_drop]
    exact hn _
  exact Nat.ne_of_gt (norm_val_pos hn' hne)
theorem text_top (l : List Nat) (h : 0 < l.length) : val (l.drop (l.length - 1)) = l.getD (l.length - 1) 0 := by
  rw [List.drop_eq_getElem_cons (by omega), val_cons, getD_lt l _ (by omega), show l.length - 1 + 1 = l.length by omega, List.drop_length]
  rfl
theorem decDigits_length_le (u k : Nat) (hk : 1 ≤ k) (h : u < 10 ^ k) : (Lib.decDigits u).length ≤ k := by
  have := nDigits_le_of_lt hk h
  rwa [Lib.decDigits_length]
end Go.Proofs.YtjobmkdaaionlaaGreatDoor
