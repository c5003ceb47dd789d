/-
  surveyorref08: Words, Reserved, Name, SameWords.
-/
import Derived.Test.YtmogmneaomndeaaDoorLexM
import Derived.Test.YtmogmneaomndeaaDoorLexF
import Derived.BigQuiet
import Derived.Deep.QuietTactic
import Derived.Laws.StructEq
set_option linter.unusedSimpArgs false
set_option linter.unusedVariables false
namespace Go.Proofs.YtmogmneaomndeaaDoor
open Go Go.Proofs Go.RowKit

theorem infoStrL : (Tryd.prog.info? 9).map (fun i => (i.zero, i.size, i.bytes)) = some (some (.string ⟨#[]⟩), 1, 16) := by kernel_rfl
/-- A slice of texts. -/
def WRow (W : World) (b c : Nat) (l : List ByteArray) : Prop :=
  l.length ≤ c ∧ c ≤ maxLen ∧ b < W.heap.size ∧ ∀ j, j < l.length → W.cell? ⟨b, j, none⟩ = some (.string (l.getD j ⟨#[]⟩))
theorem WRow.keep {W W' : World} {b c : Nat} {l : List ByteArray} (h : WRow W b c l) (hb : Below W.heap.size W W') : WRow W' b c l := by
  obtain ⟨h1, h2, h3, h4⟩ := h
  exact ⟨h1, h2, Nat.lt_of_lt_of_le h3 hb.size, fun j hj => (hb.cell (p := ⟨b, j, none⟩) h3).trans (h4 j hj)⟩
theorem wordsL_length : wordsL.length = 19 := rfl
theorem wrow_new (w : World) : WRow (w.alloc (Obj.cells (wordsL.map Value.string).toArray 9)) w.heap.size 19 wordsL := by
  refine ⟨Nat.le_refl _, by decide, by simp, fun j hj => ?_⟩
  rw [World.cell?_alloc_new]
  simp only [List.getElem?_toArray, List.getElem?_map, List.getD_eq_getElem?_getD, List.getElem?_eq_getElem hj]
  rfl
theorem owns_below1 {W W' : World} {B : Nat} {T : TypeId} {v : Value} {n : Nat} {xs : List Value} (h : W.ownsRow B T 1 v n xs) (hb : Below W.heap.size W W') : W'.ownsRow B T 1 v n xs := by
  obtain ⟨h1, h2⟩ := h
  refine ⟨h1, h2.imp_right fun ⟨b, cap, cur, e, h3, hg, r⟩ => ⟨b, cap, cur, e, h3, ?_, r⟩⟩
  rw [hb.block b (Array.getElem?_eq_some_iff.1 hg).1]; exact hg
theorem WRow.of_owns {W : World} {B g cap : Nat} {l : List ByteArray} (h : W.ownsRow B 9 1 (.slice (some ⟨g, 0, none⟩) l.length cap) l.length (l.map Value.string)) : WRow W g cap l := by
  rcases h.2 with ⟨e, h0⟩ | ⟨g2, cap2, cur, e, -, hg, h1, h2, h3, h4⟩
  · cases e
  · cases e
    refine ⟨h1, h2, (Array.getElem?_eq_some_iff.1 hg).1, fun j hj => ?_⟩
    have hc : (l.map Value.string)[j]? = some (.string (l.getD j ⟨#[]⟩)) := by
      rw [List.getElem?_map, List.getD_eq_getElem?_getD, List.getElem?_eq_getElem hj]; rfl
    rw [← h4, List.getElem?_take_of_lt (by omega)] at hc
    simp only [World.cell?, hg]
    simpa using hc

theorem cell_old (W : World) (A : Obj) {b j : Nat} (h : b < W.heap.size) : (W.alloc A).cell? ⟨b, j, none⟩ = W.cell? ⟨b, j, none⟩ := ((Below.refl W.heap.size W).alloc (Nat.le_refl _) A).cell (p := ⟨b, j, none⟩) h

set_option maxHeartbeats 400000 in
theorem refWords_any (w : World) :
    Calls Tryd.prog 17 #[] w fun e w' => ∃ g cap, e = .returned (.slice (some ⟨g, 0, none⟩) 19 cap) ∧ WRow w' g cap wordsL ∧ Below w.heap.size w w' := by
  obtain ⟨i0, hi, hz0, hz1, hz2⟩ := info_parts infoStrL
  have HH := Lib.hid (And.intro hi (And.intro hz0 (And.intro hz1 hz2)))
  have hA := (Below.refl w.heap.size w).alloc (Nat.le_refl _) (Obj.cells ((wordsL.take 10).map Value.string).toArray 9)
  have hB := hA.alloc (by simp) (Obj.cells ((wordsL.drop 10).map Value.string).toArray 9)
  have HB := Lib.hid hB
  clear hi hz0 hz1 hz2 hA hB
  go_enter Tryd.func17, Tryd.ntmps17
  go_wp2_with (first | (at_builtin; refine wpList_append_grows _ rfl (.tmp 3) (.tmp 4) 32 rfl 9 i0 _ 1 16 Tryd.underlying32 HH.out.1 HH.out.2.1 HH.out.2.2.1 HH.out.2.2.2 rfl (by decide) (some ⟨w.heap.size, 0, none⟩) 10 10 ((wordsL.take 10).map Value.string) (by simp [Act.eval, Act.put]) (by intro h; cases h) (by decide) (by intro b hb j u hu; cases hb; rw [tk_addr]; exact (cell_old _ _ (by simp)).trans ((World.cell?_alloc_new _ _ _ _).trans (by rw [← List.getElem?_toArray] at hu; exact hu))) ⟨w.heap.size + 1, 0, none⟩ 9 9 ((wordsL.drop 10).map Value.string) (by simp [Act.eval, Act.put]) (by decide) (by intro j u hu; rw [tk_addr, show w.heap.size + 1 = (w.alloc (Obj.cells ((wordsL.take 10).map Value.string).toArray 9)).heap.size by simp]; exact (World.cell?_alloc_new _ _ _ _).trans (by rw [← List.getElem?_toArray] at hu; exact hu)) (by intro u hu; simp [wordsL] at hu; rcases hu with rfl | rfl | rfl | rfl | rfl | rfl | rfl | rfl | rfl <;> rfl) (by decide) (by decide) (by decide) ?_; intro v6 w6 ho6 hg6; refine Hid.out ?_) | fail)
  have hw6 : Hid (∃ g cap, v6 = .slice (some ⟨g, 0, none⟩) 19 cap ∧ WRow w6 g cap wordsL) := by
    rcases ho6.2 with ⟨-, h0⟩ | ⟨g, cap, cur, e, hr⟩
    · exact absurd h0 (by decide)
    · subst e
      exact Lib.hid ⟨g, cap, rfl, WRow.of_owns (l := wordsL) ho6⟩
  have hb6 := Lib.hid (HB.out.grown hg6 HB.out.size (fun b hb => by cases hb))
  clear ho6 hg6
  obtain ⟨g, cap, rfl, hr⟩ := hw6.out
  have HR := Lib.hid hr
  clear hr hw6
  refine Lib.hid ?_
  go_wp2
  go_ret
  exact ⟨g, cap, rfl, HR.out, hb6.out⟩
set_option maxHeartbeats 400000 in
theorem reserved_any (s : ByteArray) (hs : s.size ≤ 9223372036854775807) (w : World) :
    Calls Tryd.prog 48 #[.string s] w fun e w' => e = .returned (.bool (Lib.containsS wordsL s)) ∧ Below w.heap.size w w' := by
  have CW := refWords_any w
  have hbad : ∀ j, j < 19 → (wordsL.getD j ⟨#[]⟩).toList == s.toList → Lib.containsS wordsL s = true := fun j hj h => by
    rw [Lib.containsS_iff]
    have e := (Lib.bytes_beq_iff _ _).1 h
    rw [← e, List.getD_eq_getElem?_getD, List.getElem?_eq_getElem (show j < wordsL.length from hj)]
    exact List.getElem_mem _
  have hgood : (∀ j, j < 19 → ((wordsL.getD j ⟨#[]⟩).toList == s.toList) = false) → Lib.containsS wordsL s = false := fun h => by
    rw [← Bool.not_eq_true, Lib.containsS_iff]
    intro hm
    obtain ⟨j, hj, e⟩ := List.mem_iff_getElem.1 hm
    have := h j hj
    rw [List.getD_eq_getElem?_getD, List.getElem?_eq_getElem hj] at this
    exact (Lib.bytes_beq_false_iff _ _).1 this e
  generalize Lib.containsS wordsL s = r at *
  have KW := Lib.hid CW; have HBAD := Lib.hid hbad; have HGOOD := Lib.hid hgood; have HSZ := Lib.hid hs
  clear CW hbad hgood hs
  go_enter Tryd.func48, Tryd.ntmps48
  go_wp2_with (go_at_call 17; refine KW.out.mono ?_; rintro e w1 ⟨g, cap, rfl, hr1, hb1⟩; refine Hid.out ?_)
  have HR1 := Lib.hid hr1; have HB1 := Lib.hid hb1
  clear hr1 hb1
  refine Lib.hid ?_
  go_wp2_with fail
  go_loopw [4] (fun iv wr => ∃ j : Nat, j ≤ 19 ∧ iv = .int .i64 (j : Int) ∧ (∀ i, i < j → ((wordsL.getD i ⟨#[]⟩).toList == s.toList) = false) ∧ wr = w1) (fun iv _ => 19 - (intOf iv).toNat)
  case atStart => exact ⟨0, Nat.zero_le _, rfl, fun i h => absurd h (Nat.not_lt_zero _), rfl⟩
  case round =>
    obtain ⟨j, hj, rfl, hg, hw⟩ := hrel
    subst hw
    by_cases hlt : j < 19
    · obtain ⟨c1, c2, c3, c4⟩ := HR1.out
      have hcell := c4 j hlt
      have ej : wrap64 ((j : Int) + 1) = (j : Int) + 1 := by unfold wrap64; omega
      have g0 : (0 : Int) ≤ (j : Int) := by omega
      have g1 : (j : Int) < 19 := by omega
      have hbad := HBAD.out j hlt
      have hstep : ((wordsL.getD j ⟨#[]⟩).toList == s.toList) = false → ∀ i, i < j + 1 → ((wordsL.getD i ⟨#[]⟩).toList == s.toList) = false := fun h i hi => by
        rcases Nat.lt_or_ge i j with q | q
        · exact hg i q
        · obtain rfl : i = j := by omega
          exact h
      have HST := Lib.hid hstep; have HJ := Lib.hid hlt
      clear c1 c2 c3 c4 hstep hg hj hlt
      generalize wordsL.getD j ⟨#[]⟩ = x at *
      generalize hq : (x.toList == s.toList) = q at *
      cases q
      · have hg2 := HST.out rfl
        have HG2 := Lib.hid hg2
        clear hg2 hbad
        go_wp2
        go_roundw
        case rel => exact ⟨j + 1, by have := HJ.out; omega, (by first | exact congrArg (Value.int .i64) (Int.natCast_add j 1).symm | exact congrArg (Value.int .i64) (ej.trans (Int.natCast_add j 1).symm)), HG2.out, by trivial⟩
        case measure => have := HJ.out; first | (show 19 - ((j : Int) + 1).toNat < 19 - ((j : Int)).toNat; omega) | (rw [ej]; show 19 - ((j : Int) + 1).toNat < 19 - ((j : Int)).toNat; omega)
      · have hr := hbad rfl
        have HR := Lib.hid hr
        clear hr hbad
        go_wp2
        go_ret
        exact ⟨congrArg (fun z => Ending.returned (.bool z)) HR.out.symm, HB1.out⟩
    · obtain rfl : j = 19 := by omega
      have hr := HGOOD.out hg
      have HR := Lib.hid hr
      clear hr hg hj hlt
      go_wp2
      go_ret
      exact ⟨congrArg (fun z => Ending.returned (.bool z)) HR.out.symm, HB1.out⟩

set_option maxHeartbeats 1000000 in
theorem sameWords_any (a c b d : Nat) (w : World) (h1 : WRow w a c wordsL) (h2 : WRow w b d wordsL) :
    Calls Tryd.prog 15 #[.slice (some ⟨a, 0, none⟩) 19 c, .slice (some ⟨b, 0, none⟩) 19 d] w fun e w' => e = .returned (.bool true) ∧ Below w.heap.size w w' := by
  have HA := Lib.hid h1; have HB := Lib.hid h2
  clear h1 h2
  go_enter Tryd.func15, Tryd.ntmps15
  go_wp2_with fail
  go_loopw [5] (fun iv wr => ∃ j : Nat, j ≤ 19 ∧ iv = .int .i64 (j : Int) ∧ Below w.heap.size w wr) (fun iv _ => 19 - (intOf iv).toNat)
  case atStart => exact ⟨0, Nat.zero_le _, rfl, Below.refl _ _⟩
  case round =>
    obtain ⟨j, hj, rfl, hB⟩ := hrel
    by_cases hlt : j < 19
    · have hc1 := (HA.out.keep hB).2.2.2 j hlt
      have hc2 := (HB.out.keep hB).2.2.2 j hlt
      have ej : wrap64 ((j : Int) + 1) = (j : Int) + 1 := by unfold wrap64; omega
      have g0 : (0 : Int) ≤ (j : Int) := by omega
      have g1 : (j : Int) < 19 := by omega
      have HJ := Lib.hid hlt; have HBB := Lib.hid hB
      clear hlt hj hB
      generalize wordsL.getD j ⟨#[]⟩ = x at *
      go_wp2_with fail
      go_quiet (fail)
      go_wp2
      go_roundw
      case rel => exact ⟨j + 1, by have := HJ.out; omega, (by first | exact congrArg (Value.int .i64) (Int.natCast_add j 1).symm | exact congrArg (Value.int .i64) (ej.trans (Int.natCast_add j 1).symm)), below_drewN HBB.out _⟩
      case measure => have := HJ.out; first | (show 19 - ((j : Int) + 1).toNat < 19 - ((j : Int)).toNat; omega) | (rw [ej]; show 19 - ((j : Int) + 1).toNat < 19 - ((j : Int)).toNat; omega)
    · obtain rfl : j = 19 := by omega
      have HBB := Lib.hid hB
      clear hlt hj hB
      go_wp2
      go_ret
      exact ⟨rfl, HBB.out⟩

set_option maxHeartbeats 400000 in
theorem refName_any (s : ByteArray) (hs : s.size ≤ 9223372036854775807) (w : World) :
    Calls Tryd.prog 19 #[.string s] w fun e w' => e = .returned (.int .i64 (nmE s : Nat)) ∧ Below w.heap.size w w' := by
  have CL := letter_any (byteAt s 0) (byteAt_lt s 0)
  have CW := fun W => refWord_any s hs W
  have CR := fun W => reserved_any s hs W
  have hb0 : ((bytes s).getD 0 0).toNat = byteAt s 0 := rfl
  have hl : (bytes s).length = s.size := rfl
  unfold nmE iwB
  rw [hl, hb0]
  by_cases hz : s.size = 0
  · obtain rfl := empty_of_size hz
    rw [if_neg (by rintro ⟨h, -⟩; revert h; decide)]
    clear CL CW CR hz hs hb0 hl
    go_enter Tryd.func19, Tryd.ntmps19
    go_wp2
    go_ret
    exact ⟨rfl, Below.refl _ _⟩
  have hp : 0 < s.size := by omega
  have hb := byteAt_get s 0 hp
  have g2 : (0 : Int) < (s.size : Int) := by omega
  have bz : ((s.size : Int) == 0) = false := by rw [beq_eq_false_iff_ne]; omega
  rw [decide_eq_true hp, Bool.true_and]
  generalize wl (bytes s) = n at *
  generalize Lib.containsS wordsL s = r at *
  generalize hq : decide (cls (byteAt s 0) = 3) = v3 at *
  generalize byteAt s 0 = b at *
  have KL := Lib.hid CL; have KW := Lib.hid CW; have KR := Lib.hid CR; have HQ := Lib.hid hq; have HZ := Lib.hid hz; have HSZ := Lib.hid hs
  clear CL CW CR hq hz hs hb0 hl
  cases v3
  · rw [Bool.false_and, Bool.and_false, if_neg (by rintro ⟨h, -⟩; cases h)]
    go_enter Tryd.func19, Tryd.ntmps19
    go_wp2_with (go_at_call 47; refine (KL.out _).mono ?_; rintro e w3 ⟨rfl, h⟩; subst h; refine Hid.out ?_)
    refine Lib.hid ?_
    go_wp2
    go_ret
    exact ⟨rfl, Below.refl _ _⟩
  rw [Bool.true_and]
  by_cases hn : n = s.size
  · have tn1 : ((n : Int) != (s.size : Int)) = false := by rw [bne_eq_false_iff_eq]; omega
    have tn2 : ((n : Int) == (s.size : Int)) = true := by rw [beq_iff_eq]; omega
    rw [decide_eq_true hn, Bool.and_true]
    by_cases h24 : s.size ≤ 24
    · have t24 : decide ((24 : Int) < (s.size : Int)) = false := by rw [decide_eq_false_iff_not]; omega
      rw [decide_eq_true h24]
      have HN := Lib.hid hn; have H24 := Lib.hid h24
      clear hn h24
      cases r
      · rw [if_pos ⟨rfl, rfl⟩]
        go_enter Tryd.func19, Tryd.ntmps19
        go_wp2_with (go_at_call 47; refine (KL.out _).mono ?_; rintro e w3 ⟨rfl, h⟩; subst h; refine Hid.out ?_)
        refine Lib.hid ?_
        go_wp2_with (go_at_call 41; refine (KW.out _).mono ?_; rintro e w3 ⟨rfl, h⟩; subst h; refine Hid.out ?_)
        refine Lib.hid ?_
        go_wp2_with (go_at_call 48; refine (KR.out _).mono ?_; rintro e w4 ⟨rfl, hb4⟩; refine Hid.out ?_)
        have HB4 := Lib.hid hb4; clear hb4
        refine Lib.hid ?_
        go_wp2
        go_ret
        exact ⟨rfl, HB4.out⟩
      · rw [if_neg (by rintro ⟨-, h⟩; cases h)]
        go_enter Tryd.func19, Tryd.ntmps19
        go_wp2_with (go_at_call 47; refine (KL.out _).mono ?_; rintro e w3 ⟨rfl, h⟩; subst h; refine Hid.out ?_)
        refine Lib.hid ?_
        go_wp2_with (go_at_call 41; refine (KW.out _).mono ?_; rintro e w3 ⟨rfl, h⟩; subst h; refine Hid.out ?_)
        refine Lib.hid ?_
        go_wp2_with (go_at_call 48; refine (KR.out _).mono ?_; rintro e w4 ⟨rfl, hb4⟩; refine Hid.out ?_)
        have HB4 := Lib.hid hb4; clear hb4
        refine Lib.hid ?_
        go_wp2
        go_ret
        exact ⟨rfl, HB4.out⟩
    · have t24 : decide ((24 : Int) < (s.size : Int)) = true := by rw [decide_eq_true_iff]; omega
      rw [decide_eq_false h24, if_neg (by rintro ⟨h, -⟩; cases h)]
      have HN := Lib.hid hn; have H24 := Lib.hid h24
      clear hn h24
      go_enter Tryd.func19, Tryd.ntmps19
      go_wp2_with (go_at_call 47; refine (KL.out _).mono ?_; rintro e w3 ⟨rfl, h⟩; subst h; refine Hid.out ?_)
      refine Lib.hid ?_
      go_wp2_with (go_at_call 41; refine (KW.out _).mono ?_; rintro e w3 ⟨rfl, h⟩; subst h; refine Hid.out ?_)
      refine Lib.hid ?_
      go_wp2
      go_ret
      exact ⟨rfl, Below.refl _ _⟩
  · have tn1 : ((n : Int) != (s.size : Int)) = true := by rw [bne_iff_ne]; omega
    have tn2 : ((n : Int) == (s.size : Int)) = false := by rw [beq_eq_false_iff_ne]; omega
    rw [decide_eq_false hn, Bool.and_false, if_neg (by rintro ⟨h, -⟩; cases h)]
    have HN := Lib.hid hn
    clear hn
    go_enter Tryd.func19, Tryd.ntmps19
    go_wp2_with (go_at_call 47; refine (KL.out _).mono ?_; rintro e w3 ⟨rfl, h⟩; subst h; refine Hid.out ?_)
    refine Lib.hid ?_
    go_wp2_with (go_at_call 41; refine (KW.out _).mono ?_; rintro e w3 ⟨rfl, h⟩; subst h; refine Hid.out ?_)
    refine Lib.hid ?_
    go_wp2
    go_ret
    exact ⟨rfl, Below.refl _ _⟩
end Go.Proofs.YtmogmneaomndeaaDoor
