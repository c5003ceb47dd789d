/-
  lexer.Strip.
-/
import Derived.Test.YtmogmneaomndeaaDoorLexC
import Derived.Test.YtmogmneaomndeaaDoorShelfP
import Derived.Lib.SplitLaws
import Derived.Lib.CutLaws
import Derived.WalkMore
set_option linter.unusedSimpArgs false
set_option linter.unusedVariables false
namespace Go.Proofs.YtmogmneaomndeaaDoor
open Go Go.Proofs Go.RowKit

/-- The lines of a text. -/
def lnB (s : ByteArray) : List ByteArray := Lib.splitB ⟨#[10]⟩ 0 (Lib.countB s ⟨#[10]⟩) s
theorem ext_sz (s : ByteArray) (a b : Nat) : (s.extract a b).size = min b s.size - a := by
  rw [← bytes_length]; unfold bytes; rw [ByteArray.data_extract, Array.toList_extract]; simp [List.length_drop, List.length_take]; omega
theorem split_sum (c : UInt8) : ∀ (k : Nat) (s : ByteArray), Lib.lens ((Lib.splitB ⟨#[c]⟩ 0 k s).map (·.data.toList)) + (Lib.splitB ⟨#[c]⟩ 0 k s).length ≤ s.size + 1
  | 0, s => by
    rw [Lib.splitB_zero]
    have : s.data.toList.length = s.size := rfl
    simp [Lib.lens, this]
  | k + 1, s => by
    have hl : s.data.toList.length = s.size := rfl
    rcases Lib.indexB_cases s ⟨#[c]⟩ with h | ⟨i, h, hi⟩
    · rw [Lib.splitB_miss _ _ _ _ h]
      simp [Lib.lens, hl]
    · rw [Lib.splitB_hit _ _ _ _ i h]
      have hi : i + 1 ≤ s.size := hi
      have ih := split_sum c k (s.extract (i + (⟨#[c]⟩ : ByteArray).size) s.size)
      have e1 : (s.extract 0 (i + 0)).data.toList.length = i := by
        show (s.extract 0 (i + 0)).size = i
        rw [ext_sz]; omega
      have e2 : (s.extract (i + (⟨#[c]⟩ : ByteArray).size) s.size).size = s.size - (i + 1) := by
        show (s.extract (i + 1) s.size).size = s.size - (i + 1)
        rw [ext_sz]; omega
      rw [e2] at ih
      generalize Lib.splitB ⟨#[c]⟩ 0 k (s.extract (i + (⟨#[c]⟩ : ByteArray).size) s.size) = r at *
      rw [List.map_cons, List.length_cons]
      have e3 : Lib.lens ((s.extract 0 (i + 0)).data.toList :: r.map (·.data.toList)) = (s.extract 0 (i + 0)).data.toList.length + Lib.lens (r.map (·.data.toList)) := by simp [Lib.lens]
      rw [e3, e1]
      omega
theorem lens_mem : ∀ (l : List ByteArray) (x : ByteArray), x ∈ l → x.size ≤ Lib.lens (l.map (·.data.toList))
  | [], _, h => by cases h
  | y :: l, x, h => by
    have e : Lib.lens ((y :: l).map (·.data.toList)) = y.size + Lib.lens (l.map (·.data.toList)) := by simp [Lib.lens]
    rw [e]
    rcases List.mem_cons.1 h with rfl | h
    · omega
    · have := lens_mem l x h; omega
/-- The lines without their comments. -/
def plB (l : List ByteArray) : List ByteArray := l.map fun x => str (upTo 35 (bytes x))
theorem lens_pl : ∀ l : List ByteArray, Lib.lens ((plB l).map (·.data.toList)) ≤ Lib.lens (l.map (·.data.toList))
  | [] => Nat.le_refl _
  | y :: l => by
    have e : Lib.lens ((y :: l).map (·.data.toList)) = y.size + Lib.lens (l.map (·.data.toList)) := by simp [Lib.lens]
    have e2 : Lib.lens ((plB (y :: l)).map (·.data.toList)) = (upTo 35 (bytes y)).length + Lib.lens ((plB l).map (·.data.toList)) := by simp [Lib.lens, plB, str]
    have h1 := lens_pl l
    have h2 := upTo_le 35 (bytes y)
    rw [bytes_length] at h2
    omega
/-- What Strip answers. -/
def stripR (s : ByteArray) : ByteArray × Nat := if 65536 < s.size then (⟨#[]⟩, 13) else (str (Lib.join ((plB (lnB s)).map (·.data.toList)) [10]), 0)

/-- A block of texts. -/
def LB (W : World) (q : Nat) (l : List ByteArray) : Prop := W.heap[q]? = some (.cells (l.map Value.string).toArray 9 (0, 0))
theorem LB.lt {W : World} {q : Nat} {l : List ByteArray} (h : LB W q l) : q < W.heap.size := (Array.getElem?_eq_some_iff.1 h).1
theorem LB.keep {W W' : World} {q : Nat} {l : List ByteArray} (h : LB W q l) (hb : Below W.heap.size W W') : LB W' q l := by
  have := hb.block q h.lt; unfold LB at *; rw [this]; exact h
theorem LB.cell {W : World} {q : Nat} {l : List ByteArray} (h : LB W q l) (j : Nat) (hj : j < l.length) : W.cell? ⟨q, j, none⟩ = some (.string (l.getD j ⟨#[]⟩)) := by
  unfold LB at h
  simp [World.cell?, h, List.getD_eq_getElem?_getD, List.getElem?_eq_getElem hj]
theorem LB.frozen {W : World} {q : Nat} {l : List ByteArray} (h : LB W q l) (j : Nat) : W.frozen? ⟨q, j, none⟩ = false := by
  unfold LB at h
  simp [World.frozen?, h]
theorem LB.set {W : World} {q : Nat} {l : List ByteArray} (h : LB W q l) (j : Nat) (x : ByteArray) : LB (W.setCell ⟨q, j, none⟩ (.string x)) q (l.set j x) := by
  have hlt := h.lt
  have h1 : W.heap[q] = .cells (l.map Value.string).toArray 9 (0, 0) := by
    have := h; unfold LB at this; simpa [Array.getElem?_eq_getElem hlt] using this
  show (W.heap.modify q _)[q]? = _
  rw [Array.getElem?_eq_getElem (by simpa using hlt), Array.getElem_modify_self, h1]
  simp [List.map_set]
/-- The lines of which the first ones are without their comments. -/
def mixB (l : List ByteArray) (j : Nat) : List ByteArray := plB (l.take j) ++ l.drop j
theorem mix_len (l : List ByteArray) (j : Nat) : (mixB l j).length = l.length := by
  unfold mixB plB; simp; omega
theorem mix_at (l : List ByteArray) (j : Nat) (h : j < l.length) : (mixB l j).getD j ⟨#[]⟩ = l.getD j ⟨#[]⟩ := by
  have hl : (plB (l.take j)).length = j := by unfold plB; simp; omega
  unfold mixB
  rw [List.getD_eq_getElem?_getD, List.getElem?_append_right (by omega), hl, Nat.sub_self, List.getElem?_drop, Nat.add_zero, ← List.getD_eq_getElem?_getD]
theorem mix_step (l : List ByteArray) (j : Nat) (h : j < l.length) : (mixB l j).set j (str (upTo 35 (bytes (l.getD j ⟨#[]⟩)))) = mixB l (j + 1) := by
  have hl : (plB (l.take j)).length = j := by unfold plB; simp; omega
  unfold mixB
  rw [List.set_append_right _ _ (by omega), hl, Nat.sub_self, List.drop_eq_getElem_cons h, List.set_cons_zero, List.take_succ_eq_append_getElem h]
  unfold plB
  rw [List.map_append, List.append_assoc, List.getD_eq_getElem?_getD, List.getElem?_eq_getElem h]
  rfl
theorem mix_end (l : List ByteArray) : mixB l l.length = plB l := by unfold mixB; simp

set_option maxHeartbeats 1000000 in
theorem strip_any (s : ByteArray) (mx : Int) (w : World) (hm : w.cell? ⟨0, 0, none⟩ = some (.int .i64 mx)) :
    Calls Tryd.prog 27 #[.string s] w fun e w' => e = .returned (.tuple #[.string (stripR s).1, .int .i64 ((stripR s).2 : Nat)]) ∧ Below w.heap.size w w' := by
  have CL : ∀ W : World, Calls Tryd.prog 36 #[.string s] W fun e w' => e = .returned (.bool (decide (65536 < s.size))) ∧ w' = W := fun W => isLongL_any s W
  unfold stripR
  by_cases hlong : 65536 < s.size
  · rw [if_pos hlong]
    rw [decide_eq_true hlong] at CL
    have KL := Lib.hid CL; have HLO := Lib.hid hlong
    clear CL hm hlong
    go_enter Tryd.func27, Tryd.ntmps27
    go_wp2_with (go_at_call 36; refine (KL.out _).mono ?_; rintro e w3 ⟨rfl, h⟩; subst h; refine Hid.out ?_)
    refine Lib.hid ?_
    go_wp2
    refine bodyPost_ret (by simp [results, Tryd.results27, go_sem]; rfl) rfl ?_
    exact ⟨rfl, Below.refl _ _⟩
  rw [if_neg hlong]
  rw [decide_eq_false hlong] at CL
  have hlen : (lnB s).length = Lib.countB s ⟨#[10]⟩ + 1 := Lib.splitB_all _ (by decide) 0 _ s rfl
  have hsum := split_sum 10 (Lib.countB s ⟨#[10]⟩) s
  have CSp := Tryd.strings_Split s ⟨#[10]⟩ mx w (by omega) hm (by decide)
  have hsz : ∀ x ∈ lnB s, x.size ≤ 65536 := fun x hx => by
    have h1 := lens_mem (lnB s) x hx
    have h2 : 0 < (lnB s).length := by omega
    unfold lnB at h1 h2
    omega
  have hnl : (lnB s).length ≤ 65537 := by unfold lnB; omega
  have hfin : (Lib.join ((plB (lnB s)).map (·.data.toList)) [10]).length ≤ 200000 := by
    have h1 := lens_pl (lnB s)
    have h3 : Lib.lens ((lnB s).map (·.data.toList)) ≤ 65537 := by unfold lnB; omega
    have h2 : (plB (lnB s)).length = (lnB s).length := by unfold plB; simp
    cases hp : (plB (lnB s)).map (·.data.toList) with
    | nil => simp [Lib.join_nil]
    | cons x r =>
      rw [Lib.join_length, ← hp]
      have h4 : r.length + 1 = (lnB s).length := by rw [← h2]; have := congrArg List.length hp; simpa using this.symm
      simp only [List.length_cons, List.length_nil]
      omega
  have hsp : Lib.splitB ⟨#[10]⟩ 0 (Lib.countB s ⟨#[10]⟩) s = lnB s := rfl
  rw [hsp, ← hlen] at CSp
  generalize lnB s = L at *
  have hne : 0 < L.length := by omega
  obtain ⟨n, hn⟩ : ∃ n, L.length = n := ⟨_, rfl⟩
  rw [hn] at CSp hne
  have KL := Lib.hid CL; have KS := Lib.hid CSp; have HSZ := Lib.hid hsz; have HNL := Lib.hid hnl; have HF := Lib.hid hfin; have HN := Lib.hid hn; have HNE := Lib.hid hne
  have HLO := Lib.hid hlong
  clear CL CSp hsz hnl hfin hn hne hlong hlen hsum hsp hm
  go_enter Tryd.func27, Tryd.ntmps27
  go_wp2_with (go_at_call 36; refine (KL.out _).mono ?_; rintro e w3 ⟨rfl, h⟩; subst h; refine Hid.out ?_)
  refine Lib.hid ?_
  go_wp2_with (go_at_call 29; refine KS.out.mono ?_; rintro e w4 ⟨rfl, h⟩; refine Hid.out ?_)
  subst h
  have hLB : LB (w3.alloc (Obj.cells (L.map Value.string).toArray 9)) w3.heap.size L := heap_alloc_new w3 _
  have hB4 : Below w3.heap.size w3 (w3.alloc (Obj.cells (L.map Value.string).toArray 9)) := (Below.refl _ _).alloc (Nat.le_refl _) _
  have HLB := Lib.hid hLB; have HB4 := Lib.hid hB4
  clear hLB hB4 KS
  refine Lib.hid ?_
  go_wp2_with fail
  go_loopw [13] (fun iv wr => ∃ j : Nat, j ≤ n ∧ iv = .int .i64 (j : Int) ∧ LB wr w3.heap.size (mixB L j) ∧ Below w3.heap.size w3 wr) (fun iv _ => n - (intOf iv).toNat)
  case atStart => exact ⟨0, Nat.zero_le _, rfl, HLB.out, HB4.out⟩
  case round =>
    obtain ⟨j, hj, rfl, hL, hB⟩ := hrel
    by_cases hlt : j < n
    · have hjl : j < L.length := by rw [HN.out]; exact hlt
      have ej : wrap64 ((j : Int) + 1) = (j : Int) + 1 := by have q1 := HNL.out; unfold wrap64; omega
      have g0 : (0 : Int) ≤ (j : Int) := by omega
      have g1 : (j : Int) < (n : Int) := by omega
      have hc := hL.cell j (by rw [mix_len]; exact hjl)
      rw [mix_at L j hjl] at hc
      have hx : (L.getD j ⟨#[]⟩).size ≤ 65536 := HSZ.out _ (by rw [List.getD_eq_getElem?_getD, List.getElem?_eq_getElem hjl]; exact List.getElem_mem hjl)
      have CC := cutB (L.getD j ⟨#[]⟩) 35 wr (by omega)
      have hst := mix_step L j hjl
      generalize L.getD j ⟨#[]⟩ = x at *
      generalize cutW 35 (bytes x) = cw at *
      generalize str (upTo 35 (bytes x)) = y at *
      have KC := Lib.hid CC; have HL := Lib.hid hL; have HB := Lib.hid hB; have HST := Lib.hid hst; have HX := Lib.hid hx; have HJL := Lib.hid hjl
      clear CC hL hB hst hx hjl hj
      go_wp2_with (go_at_call 30; refine KC.out.mono ?_; rintro e w5 ⟨rfl, hb5⟩; refine Hid.out ?_)
      have hL5 := HL.out.keep hb5
      have z1 := hL5.cell j (by rw [mix_len]; exact HJL.out)
      have z2 := hL5.frozen j
      have z3 := hL5.lt
      have hL6 := hL5.set j y
      rw [HST.out] at hL6
      have hB6 := (Below.chain HB.out hb5).setCell (p := ⟨w3.heap.size, j, none⟩) (Nat.le_refl _) (.string y)
      have HL6 := Lib.hid hL6; have HB6 := Lib.hid hB6
      clear hL5 hL6 hB6 hb5
      refine Lib.hid ?_
      go_wp2
      go_roundw
      case rel => exact ⟨j + 1, by omega, congrArg (Value.int .i64) (ej.trans (Int.natCast_add j 1).symm), HL6.out, HB6.out⟩
      case measure => rw [ej]; show n - ((j : Int) + 1).toNat < n - ((j : Int)).toNat; omega
    · obtain rfl : j = n := by omega
      have hml : (mixB L j) = plB L := by rw [← HN.out]; exact mix_end L
      rw [hml] at hL
      have hpl : (plB L).length = j := by unfold plB; simp [HN.out]
      have CJ := Tryd.strings_Join w3.heap.size 0 j (plB L) ⟨#[10]⟩ wr (fun i x hi => by
        rw [Nat.zero_add]
        have hil : i < (plB L).length := (List.getElem?_eq_some_iff.1 hi).1
        rw [hL.cell i hil, List.getD_eq_getElem?_getD, hi]; rfl) hL.lt (by have := HNL.out; rw [HN.out] at this; omega) (by omega) (Nat.le_trans HF.out (by omega))
      rw [hpl] at CJ
      have hge : ¬ (j : Int) < (j : Int) := by omega
      have KJ := Lib.hid CJ; have HB := Lib.hid hB
      clear CJ hL hB hml hpl hj hlt
      go_wp2_with (go_at_call 59; refine KJ.out.mono ?_; rintro e w5 ⟨rfl, hb5⟩; refine Hid.out ?_)
      have hB5 := Below.chain HB.out hb5
      have HB5 := Lib.hid hB5
      clear hB5 hb5
      refine Lib.hid ?_
      go_wp2
      refine bodyPost_ret (by simp [results, Tryd.results27, go_sem]; rfl) rfl ?_
      exact ⟨rfl, HB5.out⟩
end Go.Proofs.YtmogmneaomndeaaDoor
