/-
  lexer: Cut at a byte, signs, digits, numbers, words, what is skipped.
-/
import Derived.Test.YtmogmneaomndeaaDoorLexA
import Derived.Test.YtmogmneaomndeaaDoorCut
set_option linter.unusedSimpArgs false
namespace Go.Proofs.YtmogmneaomndeaaDoor
open Go Go.Proofs Go.RowKit

/-- The bytes in front of the first c. -/
def upTo (c : UInt8) (l : List UInt8) : List UInt8 := l.takeWhile fun b => b != c
theorem takeW_all {p : UInt8 → Bool} : ∀ {l : List UInt8}, (∀ b ∈ l, p b = true) → l.takeWhile p = l
  | [], _ => rfl
  | b :: l, h => by rw [List.takeWhile_cons, if_pos (h b (by simp)), takeW_all fun x hx => h x (by simp [hx])]
theorem upTo_all {c : UInt8} {l : List UInt8} (h : c ∉ l) : upTo c l = l := takeW_all fun b hb => by
  simp only [bne_iff_ne, ne_eq]
  intro e; subst e; exact h hb
theorem upTo_at {c : UInt8} {l : List UInt8} {i : Nat} (he : l = l.take i ++ c :: l.drop (i + 1)) (hm : c ∉ l.take i) : upTo c l = l.take i := by
  have h : upTo c (l.take i ++ c :: l.drop (i + 1)) = l.take i := by
    unfold upTo
    rw [List.takeWhile_append_of_pos (fun b hb => by
      simp only [bne_iff_ne, ne_eq]
      intro e; subst e; exact hm hb)]
    simp
  rwa [← he] at h
theorem byteAt_idx {s : ByteArray} {j : Nat} (h : j < s.size) : byteAt s j = ((bytes s)[j]'h).toNat := by
  unfold byteAt; rw [List.getD_eq_getElem?_getD, List.getElem?_eq_getElem (show j < (bytes s).length from h)]; rfl
/-- What Cut returns: the part in front, the part behind, whether it was found. -/
def cutW (c : UInt8) (l : List UInt8) : ByteArray × Bool := if c ∈ l then (str (l.drop ((upTo c l).length + 1)), true) else (⟨#[]⟩, false)

set_option maxHeartbeats 1000000 in
theorem cutLiteB (s : ByteArray) (c : UInt8) (w : World) (hs : s.size ≤ 9223372036854775806) :
    Calls Tryd.prog 61 #[.string s, .string ⟨#[c]⟩] w fun e w' => e = .returned (.tuple #[.string (str (upTo c (bytes s))), .string (cutW c (bytes s)).1, .bool (cutW c (bytes s)).2]) ∧ Below w.heap.size w w' := by
  have C : ∀ W : World, Calls Tryd.prog 82 #[.string s, .string ⟨#[c]⟩] W fun e w' => e = .returned (.int .i64 (Lib.indexByte (bytes s) c)) ∧ w' = W := fun W => Tryd.stringslite_Index_one s c W
  unfold cutW
  rcases indexByte_cases (bytes s) c with ⟨h, hm⟩ | ⟨i, h, hi, he, hm⟩
  · rw [if_neg hm, upTo_all hm, str_bytes]
    rw [h] at C
    have K := Lib.hid C; clear C h hm
    go_enter Tryd.func61, Tryd.ntmps61
    go_wp2_with (go_at_call 82; refine (K.out _).mono ?_; rintro e w1 ⟨rfl, h⟩; subst h; refine Hid.out ?_)
    refine Lib.hid ?_
    go_wp2
    refine bodyPost_ret (by simp [results, Tryd.results61, go_sem]; rfl) rfl ?_
    exact ⟨rfl, Below.refl _ _⟩
  · have hmem : c ∈ bytes s := by rw [he]; simp
    rw [if_pos hmem, upTo_at he hm]
    have hl : ((bytes s).take i).length = i := by rw [List.length_take]; omega
    rw [hl]
    have hi' : i < s.size := hi
    rw [← extract_take s i, ← extract_drop s (i + 1)]
    rw [h] at C
    have K := Lib.hid C; clear C h hm he hl hmem hi
    go_enter Tryd.func61, Tryd.ntmps61
    go_wp2_with (go_at_call 82; refine (K.out _).mono ?_; rintro e w1 ⟨rfl, h⟩; subst h; refine Hid.out ?_)
    refine Lib.hid ?_
    go_wp2_with fail
    go_region
    all_goals
      go_wp2
      refine bodyPost_ret (by simp [results, Tryd.results61, go_sem]; rfl) rfl ?_
      exact ⟨rfl, (Below.refl _ _).drew⟩
theorem cutB (s : ByteArray) (c : UInt8) (w : World) (hs : s.size ≤ 9223372036854775806) :
    Calls Tryd.prog 30 #[.string s, .string ⟨#[c]⟩] w fun e w' => e = .returned (.tuple #[.string (str (upTo c (bytes s))), .string (cutW c (bytes s)).1, .bool (cutW c (bytes s)).2]) ∧ Below w.heap.size w w' := by
  have C := fun W => cutLiteB s c W hs
  generalize str (upTo c (bytes s)) = u at *
  generalize cutW c (bytes s) = v at *
  obtain ⟨v1, v2⟩ := v
  dsimp only at C ⊢
  have K := Lib.hid C; clear C hs
  go_enter Tryd.func30, Tryd.ntmps30
  go_wp2_with (go_at_call 61; refine (K.out _).mono ?_; rintro e w1 ⟨rfl, hb1⟩; refine Hid.out ?_)
  refine Lib.hid ?_
  go_wp2
  refine bodyPost_ret (by simp [results, Tryd.results30, go_sem]; rfl) rfl ?_
  exact ⟨rfl, hb1⟩

/-- The length of the sign at the beginning. -/
def sl (l : List UInt8) : Nat := if 2 ≤ l.length ∧ lsB (l.take 2) = true then 2 else if 1 ≤ l.length ∧ cls (l.getD 0 0).toNat = 5 then 1 else 0

set_option maxHeartbeats 1000000 in
theorem signLength_any (s : ByteArray) (hs : s.size ≤ 9223372036854775807) (w : World) (ht : Lib.TabIs Tryd.prog w "surveyor/lexer.classes" .u8 clsTab) :
    Calls Tryd.prog 75 #[.string s] w fun e w' => e = .returned (.int .i64 (sl (bytes s) : Nat)) ∧ w' = w := by
  have CC : Calls Tryd.prog 73 #[.int .u8 (byteAt s 0 : Int)] w fun e w' => e = .returned (.int .u8 (cls (byteAt s 0) : Nat)) ∧ w' = w := classOf_any (byteAt s 0) (byteAt_lt s 0) w ht
  have CL := isLongSign_any (s.extract 0 2) w
  have e2 : bytes (s.extract 0 2) = (bytes s).take 2 := by rw [extract_take, bytes_str]
  rw [e2] at CL
  have hb0 : cls ((bytes s).getD 0 0).toNat = cls (byteAt s 0) := rfl
  unfold sl
  rw [hb0]
  have hl : (bytes s).length = s.size := rfl
  rw [hl]
  clear ht e2 hb0 hl
  generalize cls (byteAt s 0) = q at *
  by_cases h2 : 2 ≤ s.size
  · have m2 : min (s.size : Int) 2 = 2 := by omega
    have hb := byteAt_get s 0 (by omega)
    have g1 : (2 : Int) ≤ (s.size : Int) := by omega
    have g2 : (0 : Int) < (s.size : Int) := by omega
    generalize byteAt s 0 = b at *
    cases hL : lsB ((bytes s).take 2)
    · rw [hL] at CL
      rw [if_neg (by simp)]
      by_cases h5 : q = 5
      · rw [if_pos ⟨by omega, h5⟩]
        subst h5
        have K := Lib.hid CC; have KL := Lib.hid CL; clear CC CL hL
        go_enter Tryd.func75, Tryd.ntmps75
        go_wp2_with (go_at_call 88; refine KL.out.mono ?_; rintro e w1 ⟨rfl, h⟩; subst h; refine Hid.out ?_)
        refine Lib.hid ?_
        go_wp2_with (go_at_call 73; refine K.out.mono ?_; rintro e w1 ⟨rfl, h⟩; subst h; refine Hid.out ?_)
        refine Lib.hid ?_
        go_wp2
        go_ret
        exact ⟨rfl, rfl⟩
      · rw [if_neg (by omega)]
        have n5 : ((q : Int) == 5) = false := by rw [beq_eq_false_iff_ne]; omega
        have K := Lib.hid CC; have KL := Lib.hid CL; clear CC CL hL h5
        go_enter Tryd.func75, Tryd.ntmps75
        go_wp2_with (go_at_call 88; refine KL.out.mono ?_; rintro e w1 ⟨rfl, h⟩; subst h; refine Hid.out ?_)
        refine Lib.hid ?_
        go_wp2_with (go_at_call 73; refine K.out.mono ?_; rintro e w1 ⟨rfl, h⟩; subst h; refine Hid.out ?_)
        refine Lib.hid ?_
        go_wp2
        go_ret
        exact ⟨rfl, rfl⟩
    · rw [hL] at CL
      rw [if_pos ⟨h2, rfl⟩]
      have KL := Lib.hid CL; clear CC CL hL
      go_enter Tryd.func75, Tryd.ntmps75
      go_wp2_with (go_at_call 88; refine KL.out.mono ?_; rintro e w1 ⟨rfl, h⟩; subst h; refine Hid.out ?_)
      refine Lib.hid ?_
      go_wp2
      go_ret
      exact ⟨rfl, rfl⟩
  · rw [if_neg (by omega)]
    by_cases h1 : s.size = 1
    · have m2 : min (s.size : Int) 2 = 1 := by omega
      have hb := byteAt_get s 0 (by omega)
      have g2 : (0 : Int) < (s.size : Int) := by omega
      generalize byteAt s 0 = b at *
      by_cases h5 : q = 5
      · rw [if_pos ⟨by omega, h5⟩]
        subst h5
        have K := Lib.hid CC; clear CC CL
        go_enter Tryd.func75, Tryd.ntmps75
        go_wp2_with (go_at_call 73; refine K.out.mono ?_; rintro e w1 ⟨rfl, h⟩; subst h; refine Hid.out ?_)
        refine Lib.hid ?_
        go_wp2
        go_ret
        exact ⟨rfl, rfl⟩
      · rw [if_neg (by omega)]
        have n5 : ((q : Int) == 5) = false := by rw [beq_eq_false_iff_ne]; omega
        have K := Lib.hid CC; clear CC CL h5
        go_enter Tryd.func75, Tryd.ntmps75
        go_wp2_with (go_at_call 73; refine K.out.mono ?_; rintro e w1 ⟨rfl, h⟩; subst h; refine Hid.out ?_)
        refine Lib.hid ?_
        go_wp2
        go_ret
        exact ⟨rfl, rfl⟩
    · rw [if_neg (by omega)]
      have m2 : min (s.size : Int) 2 = 0 := by omega
      clear CC CL
      go_enter Tryd.func75, Tryd.ntmps75
      go_wp2
      go_ret
      exact ⟨rfl, rfl⟩

/-- All bytes are digits, and there is one. -/
def dgB (n : Nat) : Bool := decide (cls n = 4)
def adB (l : List UInt8) : Bool := l.all (fun c => dgB c.toNat) && !l.isEmpty

set_option maxHeartbeats 1000000 in
theorem areDigits_any (s : ByteArray) (hs : s.size ≤ 9223372036854775807) (w : World) (ht : Lib.TabIs Tryd.prog w "surveyor/lexer.classes" .u8 clsTab) :
    Calls Tryd.prog 49 #[.string s] w fun e w' => e = .returned (.bool (adB (bytes s))) ∧ w' = w := by
  have CC : ∀ n : Nat, n < 256 → Calls Tryd.prog 73 #[.int .u8 (n : Int)] w fun e w' => e = .returned (.int .u8 (cls n : Nat)) ∧ w' = w := fun n hn => classOf_any n hn w ht
  have hbad : ∀ j, j < s.size → dgB (byteAt s j) = false → adB (bytes s) = false := fun j hj h => by
    unfold adB
    rw [Bool.and_eq_false_iff]
    refine .inl (List.all_eq_false.2 ⟨(bytes s)[j]'hj, List.getElem_mem _, ?_⟩)
    rw [← byteAt_idx hj, h]; decide
  have hgood : (∀ j, j < s.size → dgB (byteAt s j) = true) → adB (bytes s) = !decide (s.size = 0) := fun h => by
    unfold adB
    have : ((bytes s).all fun c => dgB c.toNat) = true := by
      rw [List.all_eq_true]
      intro c hc
      obtain ⟨j, hj, rfl⟩ := List.mem_iff_getElem.1 hc
      have := h j hj
      rwa [byteAt_idx hj] at this
    rw [this, Bool.true_and]
    show (!(bytes s).isEmpty) = !decide ((bytes s).length = 0)
    cases bytes s <;> simp
  generalize adB (bytes s) = r at *
  have KC := Lib.hid CC; have HBAD := Lib.hid hbad; have HGOOD := Lib.hid hgood
  clear CC hbad hgood ht
  generalize hn : s.size = n at *
  have HN := Lib.hid hn; clear hn
  go_enter Tryd.func49, Tryd.ntmps49
  go_wp2_with fail
  go_loopw [6] (fun iv wr => ∃ j : Nat, j ≤ n ∧ iv = .int .i64 (j : Int) ∧ (∀ i, i < j → dgB (byteAt s i) = true) ∧ wr = w) (fun iv _ => n - (intOf iv).toNat)
  case atStart => exact ⟨0, Nat.zero_le _, rfl, fun i h => absurd h (by omega), rfl⟩
  case round =>
    obtain ⟨j, hj, rfl, hg, hw⟩ := hrel
    have HG := Lib.hid hg; clear hg
    obtain hw2 : w = wr := hw.symm
    clear hw
    subst hw2
    by_cases hlt : j < n
    · have hjs : j < s.size := by rw [HN.out]; exact hlt
      have hb := byteAt_get s j hjs
      have hq := KC.out (byteAt s j) (byteAt_lt s j)
      have hj0 : (0 : Int) ≤ (j : Int) := by omega
      have hj1 : (j : Int) < (n : Int) := by omega
      have hj2 : (j : Int) < (s.size : Int) := by omega
      have hbad := HBAD.out j hlt
      have hstep : dgB (byteAt s j) = true → ∀ i, i < j + 1 → dgB (byteAt s i) = true := fun h i hi => by
        rcases Nat.lt_or_ge i j with q | q
        · exact HG.out i q
        · obtain rfl : i = j := by omega
          exact h
      unfold dgB at hbad hstep
      have HST := Lib.hid hstep; clear hstep
      by_cases h4 : cls (byteAt s j) = 4
      · have hst := HST.out (by rw [h4]; rfl)
        rw [h4] at hq
        generalize byteAt s j = b at *
        have KQ := Lib.hid hq; have HS2 := Lib.hid hst; clear hq hbad h4 hst
        go_wp2_with (go_at_call 73; refine KQ.out.mono ?_; rintro e w3 ⟨rfl, h⟩; subst h; refine Hid.out ?_)
        refine Lib.hid ?_
        go_wp2
        go_roundw
        case rel => exact ⟨j + 1, by omega, by go_num, HS2.out, by trivial⟩
        case measure => simp [intOf]; omega
      · have hr := hbad (by rw [decide_eq_false h4])
        subst hr
        generalize byteAt s j = b at *
        generalize cls b = q at *
        have n4 : ((q : Int) == 4) = false := by rw [beq_eq_false_iff_ne]; omega
        have KQ := Lib.hid hq; clear hq hbad
        go_wp2_with (go_at_call 73; refine KQ.out.mono ?_; rintro e w3 ⟨rfl, h⟩; subst h; refine Hid.out ?_)
        refine Lib.hid ?_
        go_wp2
        go_ret
        exact ⟨rfl, rfl⟩
    · obtain rfl : j = n := by omega
      have hr := HGOOD.out (fun i hi => HG.out i hi)
      by_cases hz : j = 0
      · subst hz
        obtain rfl : r = false := hr
        obtain rfl : s = ⟨#[]⟩ := ByteArray.ext (Array.eq_empty_of_size_eq_zero HN.out)
        go_wp2
        go_ret
        exact ⟨rfl, rfl⟩
      · obtain rfl : r = true := by rw [hr, decide_eq_false hz]; rfl
        have q0 : ¬ s.toList = [] := fun e => by
          rw [Lib.toList_data] at e
          have h1 := bytes_length s
          rw [show bytes s = [] from e, HN.out] at h1
          exact hz h1.symm
        have q1 : s.toList.isEmpty = false := by rw [List.isEmpty_eq_false_iff]; exact q0
        clear hr hz hlt hj
        have hge : ¬ j < s.size := by rw [HN.out]; omega
        go_wp2
        go_ret
        exact ⟨rfl, rfl⟩

/-- The error of the text of a number. -/
def numErr (l : List UInt8) : Nat := if adB l = true then (if (l.getD 0 0).toNat = 48 ∧ 1 < l.length then 3 else if 100 < l.length then 10 else 0) else 4

set_option maxHeartbeats 1000000 in
theorem number_any (s : ByteArray) (hs : s.size ≤ 9223372036854775807) (w : World) (ht : Lib.TabIs Tryd.prog w "surveyor/lexer.classes" .u8 clsTab) :
    Calls Tryd.prog 20 #[.string s] w fun e w' => e = .returned (.int .i64 (numErr (bytes s) : Nat)) ∧ w' = w := by
  have CA := areDigits_any s hs w ht
  have h0 : adB (bytes s) = true → 0 < s.size := fun h => by
    unfold adB at h
    rw [Bool.and_eq_true] at h
    have h2 := h.2
    show 0 < (bytes s).length
    cases hb : bytes s
    · rw [hb] at h2; cases h2
    · simp
  have hl : (bytes s).length = s.size := rfl
  have hb0 : ((bytes s).getD 0 0).toNat = byteAt s 0 := rfl
  unfold numErr
  rw [hl, hb0]
  cases hA : adB (bytes s)
  · rw [if_neg (by simp)]
    rw [hA] at CA
    have K := Lib.hid CA; clear CA ht h0 hA hl hb0
    go_enter Tryd.func20, Tryd.ntmps20
    go_wp2_with (go_at_call 49; refine K.out.mono ?_; rintro e w3 ⟨rfl, h⟩; subst h; refine Hid.out ?_)
    refine Lib.hid ?_
    go_wp2
    go_ret
    exact ⟨rfl, rfl⟩
  · rw [if_pos rfl]
    rw [hA] at CA
    have hp := h0 hA
    have hb := byteAt_get s 0 hp
    have g2 : (0 : Int) < (s.size : Int) := by omega
    have K := Lib.hid CA; clear CA ht h0 hA hl hb0
    generalize byteAt s 0 = b at *
    by_cases h48 : b = 48
    · subst h48
      by_cases h1 : 1 < s.size
      · rw [if_pos ⟨rfl, h1⟩]
        have g1 : (1 : Int) < (s.size : Int) := by omega
        go_enter Tryd.func20, Tryd.ntmps20
        go_wp2_with (go_at_call 49; refine K.out.mono ?_; rintro e w3 ⟨rfl, h⟩; subst h; refine Hid.out ?_)
        refine Lib.hid ?_
        go_wp2
        go_ret
        exact ⟨rfl, rfl⟩
      · rw [if_neg (by omega), if_neg (by omega)]
        have g1 : ¬ (1 : Int) < (s.size : Int) := by omega
        have g3 : ¬ (100 : Int) < (s.size : Int) := by omega
        go_enter Tryd.func20, Tryd.ntmps20
        go_wp2_with (go_at_call 49; refine K.out.mono ?_; rintro e w3 ⟨rfl, h⟩; subst h; refine Hid.out ?_)
        refine Lib.hid ?_
        go_wp2
        go_ret
        exact ⟨rfl, rfl⟩
    · rw [if_neg (by omega)]
      have n48 : ((b : Int) == 48) = false := by rw [beq_eq_false_iff_ne]; omega
      by_cases h1 : 100 < s.size
      · rw [if_pos h1]
        have g1 : (100 : Int) < (s.size : Int) := by omega
        go_enter Tryd.func20, Tryd.ntmps20
        go_wp2_with (go_at_call 49; refine K.out.mono ?_; rintro e w3 ⟨rfl, h⟩; subst h; refine Hid.out ?_)
        refine Lib.hid ?_
        go_wp2
        go_ret
        exact ⟨rfl, rfl⟩
      · rw [if_neg h1]
        have g1 : ¬ (100 : Int) < (s.size : Int) := by omega
        go_enter Tryd.func20, Tryd.ntmps20
        go_wp2_with (go_at_call 49; refine K.out.mono ?_; rintro e w3 ⟨rfl, h⟩; subst h; refine Hid.out ?_)
        refine Lib.hid ?_
        go_wp2
        go_ret
        exact ⟨rfl, rfl⟩

theorem isLongL_any (s : ByteArray) (w : World) : Calls Tryd.prog 36 #[.string s] w fun e w' => e = .returned (.bool (decide (65536 < s.size))) ∧ w' = w := by
  have h : decide ((65536 : Int) < (s.size : Int)) = decide (65536 < s.size) := by
    rw [Bool.eq_iff_iff, decide_eq_true_eq, decide_eq_true_eq]; omega
  have H := Lib.hid h
  go_enter Tryd.func36, Tryd.ntmps36
  go_wp2
  go_ret
  exact ⟨by first | rfl | (rw [← H.out]; rfl) | simp, rfl⟩
end Go.Proofs.YtmogmneaomndeaaDoor
