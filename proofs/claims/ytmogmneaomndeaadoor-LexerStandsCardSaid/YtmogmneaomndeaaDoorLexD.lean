/-
  lexer: words, tokens as they may be, tokens that stand apart.
-/
import Derived.Test.YtmogmneaomndeaaDoorLexC
import Derived.WalkMore
set_option linter.unusedSimpArgs false
set_option linter.unusedVariables false
namespace Go.Proofs.YtmogmneaomndeaaDoor
open Go Go.Proofs Go.RowKit

/-- Names and reserved words. -/
def iwB (l : List UInt8) : Bool := decide (0 < l.length) && (decide (l.length ≤ 24) && (decide (cls (l.getD 0 0).toNat = 3) && decide (wl l = l.length)))
theorem empty_of_size {s : ByteArray} (h : s.size = 0) : s = ⟨#[]⟩ := ByteArray.ext (Array.eq_empty_of_size_eq_zero h)
theorem toList_ne {s : ByteArray} (h : 0 < s.size) : ¬ s.toList = [] := fun e => by
  rw [Lib.toList_data] at e
  have h1 := bytes_length s
  rw [show bytes s = [] from e] at h1
  simp at h1
  omega

set_option maxHeartbeats 400000 in
theorem isWord_any (s : ByteArray) (hs : s.size ≤ 9223372036854775807) (w : World) (ht : Lib.TabIs Tryd.prog w "surveyor/lexer.classes" .u8 clsTab) :
    Calls Tryd.prog 45 #[.string s] w fun e w' => e = .returned (.bool (iwB (bytes s))) ∧ w' = w := by
  have hb0 : ((bytes s).getD 0 0).toNat = byteAt s 0 := rfl
  have hl : (bytes s).length = s.size := rfl
  have CC := classOf_any (byteAt s 0) (byteAt_lt s 0) w ht
  have CW := wordLength_any s hs w ht
  unfold iwB
  rw [hl, hb0]
  by_cases hz : s.size = 0
  · obtain rfl := empty_of_size hz
    rw [show decide (0 < (⟨#[]⟩ : ByteArray).size) = false from rfl, Bool.false_and]
    clear CC CW ht hb0 hl hz hs
    go_enter Tryd.func45, Tryd.ntmps45
    go_wp2
    go_ret
    exact ⟨rfl, rfl⟩
  · have hp : 0 < s.size := by omega
    have q0 := toList_ne hp
    have q1 : s.toList.isEmpty = false := by rw [List.isEmpty_eq_false_iff]; exact q0
    have hb := byteAt_get s 0 hp
    have g2 : (0 : Int) < (s.size : Int) := by omega
    rw [decide_eq_true hp, Bool.true_and]
    generalize wl (bytes s) = n at *
    generalize hq : cls (byteAt s 0) = q at *
    have KC := Lib.hid CC; have KW := Lib.hid CW
    clear CC CW ht hb0 hl hz hs hq
    generalize byteAt s 0 = b at *
    by_cases h24 : s.size ≤ 24
    · have t24 : decide ((s.size : Int) ≤ 24) = true := by rw [decide_eq_true_iff]; omega
      rw [decide_eq_true h24, Bool.true_and]
      have H24 := Lib.hid h24; clear h24
      by_cases h3 : q = 3
      · subst h3
        rw [decide_eq_true rfl, Bool.true_and]
        by_cases hn : n = s.size
        · have tn : ((n : Int) == (s.size : Int)) = true := by rw [beq_iff_eq]; omega
          rw [decide_eq_true hn]
          have HN := Lib.hid hn; clear hn
          go_enter Tryd.func45, Tryd.ntmps45
          go_wp2_with (go_at_call 73; refine KC.out.mono ?_; rintro e w3 ⟨rfl, h⟩; subst h; refine Hid.out ?_)
          refine Lib.hid ?_
          go_wp2_with (go_at_call 74; refine KW.out.mono ?_; rintro e w3 ⟨rfl, h⟩; subst h; refine Hid.out ?_)
          refine Lib.hid ?_
          go_wp2
          go_ret
          exact ⟨rfl, rfl⟩
        · have tn : ((n : Int) == (s.size : Int)) = false := by rw [beq_eq_false_iff_ne]; omega
          rw [decide_eq_false hn]
          have HN := Lib.hid hn; clear hn
          go_enter Tryd.func45, Tryd.ntmps45
          go_wp2_with (go_at_call 73; refine KC.out.mono ?_; rintro e w3 ⟨rfl, h⟩; subst h; refine Hid.out ?_)
          refine Lib.hid ?_
          go_wp2_with (go_at_call 74; refine KW.out.mono ?_; rintro e w3 ⟨rfl, h⟩; subst h; refine Hid.out ?_)
          refine Lib.hid ?_
          go_wp2
          go_ret
          exact ⟨rfl, rfl⟩
      · have n3 : ((q : Int) == 3) = false := by rw [beq_eq_false_iff_ne]; omega
        rw [decide_eq_false h3, Bool.false_and]
        have H3 := Lib.hid h3; clear h3
        go_enter Tryd.func45, Tryd.ntmps45
        go_wp2_with (go_at_call 73; refine KC.out.mono ?_; rintro e w3 ⟨rfl, h⟩; subst h; refine Hid.out ?_)
        refine Lib.hid ?_
        go_wp2
        go_ret
        exact ⟨rfl, rfl⟩
    · have t24 : decide ((s.size : Int) ≤ 24) = false := by rw [decide_eq_false_iff_not]; omega
      rw [decide_eq_false h24, Bool.false_and]
      have H24 := Lib.hid h24; clear h24
      go_enter Tryd.func45, Tryd.ntmps45
      go_wp2
      go_ret
      exact ⟨rfl, rfl⟩

/-- Whether a token of a kind can have a text. -/
def itB (k : Int) (l : List UInt8) : Bool :=
  if k = 0 then iwB l else if k = 1 then decide (numErr l = 0) else if k = 2 then decide (0 < l.length) && decide (sl l = l.length) else decide (l.length = 0)

set_option maxHeartbeats 400000 in
theorem isTextOf_any (k : Int) (s : ByteArray) (hs : s.size ≤ 9223372036854775807) (w : World) (ht : Lib.TabIs Tryd.prog w "surveyor/lexer.classes" .u8 clsTab) :
    Calls Tryd.prog 77 #[.int .i64 k, .string s] w fun e w' => e = .returned (.bool (itB k (bytes s))) ∧ w' = w := by
  have CI := isWord_any s hs w ht
  have CN := number_any s hs w ht
  have CS := signLength_any s hs w ht
  have hl : (bytes s).length = s.size := rfl
  unfold itB
  rw [hl]
  generalize iwB (bytes s) = v at *
  generalize numErr (bytes s) = ne at *
  generalize sl (bytes s) = m at *
  have KI := Lib.hid CI; have KN := Lib.hid CN; have KS := Lib.hid CS
  clear CI CN CS ht hs hl
  by_cases k0 : k = 0
  · subst k0
    rw [if_pos rfl]
    go_enter Tryd.func77, Tryd.ntmps77
    go_wp2_with (go_at_call 45; refine KI.out.mono ?_; rintro e w3 ⟨rfl, h⟩; subst h; refine Hid.out ?_)
    refine Lib.hid ?_
    go_wp2
    go_ret
    exact ⟨rfl, rfl⟩
  rw [if_neg k0]
  have b0 : (k == 0) = false := by rw [beq_eq_false_iff_ne]; exact k0
  by_cases k1 : k = 1
  · subst k1
    rw [if_pos rfl]
    have e : decide (ne = 0) = ((ne : Int) == 0) := by
      by_cases h : ne = 0
      · subst h; rfl
      · rw [decide_eq_false h]; symm; rw [beq_eq_false_iff_ne]; omega
    rw [e]
    generalize hv : ((ne : Int) == 0) = v2 at *
    have HE := Lib.hid e; clear e k0
    go_enter Tryd.func77, Tryd.ntmps77
    go_wp2_with (go_at_call 20; refine KN.out.mono ?_; rintro e w3 ⟨rfl, h⟩; subst h; refine Hid.out ?_)
    refine Lib.hid ?_
    go_wp2
    go_ret
    exact ⟨rfl, rfl⟩
  rw [if_neg k1]
  have b1 : (k == 1) = false := by rw [beq_eq_false_iff_ne]; exact k1
  by_cases k2 : k = 2
  · subst k2
    rw [if_pos rfl]
    clear k0 k1
    by_cases hz : s.size = 0
    · obtain rfl := empty_of_size hz
      rw [show decide (0 < (⟨#[]⟩ : ByteArray).size) = false from rfl, Bool.false_and]
      clear hz
      go_enter Tryd.func77, Tryd.ntmps77
      go_wp2
      go_ret
      exact ⟨rfl, rfl⟩
    · have hp : 0 < s.size := by omega
      have q0 := toList_ne hp
      have q1 : s.toList.isEmpty = false := by rw [List.isEmpty_eq_false_iff]; exact q0
      rw [decide_eq_true hp, Bool.true_and]
      have e : decide (m = s.size) = ((m : Int) == (s.size : Int)) := by
        by_cases h : m = s.size
        · rw [decide_eq_true h]; symm; rw [beq_iff_eq]; omega
        · rw [decide_eq_false h]; symm; rw [beq_eq_false_iff_ne]; omega
      rw [e]
      have HE := Lib.hid e; clear e
      generalize hv : ((m : Int) == (s.size : Int)) = v2 at *
      clear hz
      go_enter Tryd.func77, Tryd.ntmps77
      go_wp2_with (go_at_call 75; refine KS.out.mono ?_; rintro e w3 ⟨rfl, h⟩; subst h; refine Hid.out ?_)
      refine Lib.hid ?_
      go_wp2
      go_ret
      exact ⟨rfl, rfl⟩
  rw [if_neg k2]
  have b2 : (k == 2) = false := by rw [beq_eq_false_iff_ne]; exact k2
  have H0 := Lib.hid k0; have H1 := Lib.hid k1; have H2 := Lib.hid k2
  clear k0 k1 k2
  by_cases hz : s.size = 0
  · obtain rfl := empty_of_size hz
    rw [decide_eq_true hz]
    clear hz
    go_enter Tryd.func77, Tryd.ntmps77
    go_wp2
    go_ret
    exact ⟨rfl, rfl⟩
  · have hp : 0 < s.size := by omega
    have q0 := toList_ne hp
    have q1 : s.toList.isEmpty = false := by rw [List.isEmpty_eq_false_iff]; exact q0
    rw [decide_eq_false hz]
    clear hz
    go_enter Tryd.func77, Tryd.ntmps77
    go_wp2
    go_ret
    exact ⟨rfl, rfl⟩

/-- The error of a token. -/
def ckE (k : Int) (l : List UInt8) (last : Bool) : Nat := if k < 0 ∨ 3 < k ∨ (k = 3 ∧ last = false) then 1 else if itB k l = true then 0 else 3

set_option maxHeartbeats 400000 in
theorem checkToken_any (k : Int) (s : ByteArray) (at_ : Int) (last : Bool) (hs : s.size ≤ 9223372036854775807) (w : World) (ht : Lib.TabBelow Tryd.prog w.heap.size w "surveyor/lexer.classes" .u8 clsTab) :
    Calls Tryd.prog 50 #[.agg #[.int .i64 k, .string s, .int .i64 at_], .bool last] w fun e w' => e = .returned (.int .i64 (ckE k (bytes s) last : Nat)) ∧ Below w.heap.size w w' := by
  have CT : ∀ W : World, Below w.heap.size w W → Calls Tryd.prog 77 #[.int .i64 k, .string s] W fun e w' => e = .returned (.bool (itB k (bytes s))) ∧ w' = W := fun W hW => isTextOf_any k s hs W (ht W hW)
  have KB : ∀ v0 v1 v2 : Value, Below w.heap.size w (w.alloc (Obj.cells #[v0, v1, v2] 49)) := fun v0 v1 v2 => (Below.refl _ _).alloc (Nat.le_refl _) _
  unfold ckE
  generalize itB k (bytes s) = v at *
  have HB := Lib.hid KB; have KT := Lib.hid CT
  clear CT KB ht hs
  by_cases h0 : k < 0
  · rw [if_pos (Or.inl h0)]
    have b0 : decide (k < 0) = true := by simpa using h0
    have H0 := Lib.hid h0; clear h0
    go_enter Tryd.func50, Tryd.ntmps50
    go_wp2
    go_ret
    exact ⟨rfl, HB.out _ _ _⟩
  have b0 : decide (k < 0) = false := by simpa using h0
  by_cases h4 : 3 < k
  · rw [if_pos (Or.inr (Or.inl h4))]
    have b4 : decide (3 < k) = true := by simpa using h4
    have H0 := Lib.hid h0; have H4 := Lib.hid h4; clear h0 h4
    go_enter Tryd.func50, Tryd.ntmps50
    go_wp2
    go_ret
    exact ⟨rfl, HB.out _ _ _⟩
  have b4 : decide (3 < k) = false := by simpa using h4
  by_cases h3 : k = 3
  · subst h3
    clear h0 h4 b0 b4
    cases last
    · rw [if_pos (Or.inr (Or.inr ⟨rfl, rfl⟩))]
      go_enter Tryd.func50, Tryd.ntmps50
      go_wp2
      go_ret
      exact ⟨rfl, HB.out _ _ _⟩
    · rw [if_neg (by simp)]
      cases v
      · rw [if_neg (by simp)]
        go_enter Tryd.func50, Tryd.ntmps50
        go_wp2_with (go_at_call 77; refine (KT.out _ (HB.out _ _ _)).mono ?_; rintro e w3 ⟨rfl, h⟩; subst h; refine Hid.out ?_)
        refine Lib.hid ?_
        go_wp2
        go_ret
        exact ⟨rfl, HB.out _ _ _⟩
      · rw [if_pos rfl]
        go_enter Tryd.func50, Tryd.ntmps50
        go_wp2_with (go_at_call 77; refine (KT.out _ (HB.out _ _ _)).mono ?_; rintro e w3 ⟨rfl, h⟩; subst h; refine Hid.out ?_)
        refine Lib.hid ?_
        go_wp2
        go_ret
        exact ⟨rfl, HB.out _ _ _⟩
  · rw [if_neg (by rintro (h | h | ⟨h, -⟩) <;> contradiction)]
    have b3 : (k == 3) = false := by rw [beq_eq_false_iff_ne]; exact h3
    have H0 := Lib.hid h0; have H4 := Lib.hid h4; have H3 := Lib.hid h3; clear h0 h4 h3
    cases v
    · rw [if_neg (by simp)]
      go_enter Tryd.func50, Tryd.ntmps50
      go_wp2_with (go_at_call 77; refine (KT.out _ (HB.out _ _ _)).mono ?_; rintro e w3 ⟨rfl, h⟩; subst h; refine Hid.out ?_)
      refine Lib.hid ?_
      go_wp2
      go_ret
      exact ⟨rfl, HB.out _ _ _⟩
    · rw [if_pos rfl]
      go_enter Tryd.func50, Tryd.ntmps50
      go_wp2_with (go_at_call 77; refine (KT.out _ (HB.out _ _ _)).mono ?_; rintro e w3 ⟨rfl, h⟩; subst h; refine Hid.out ?_)
      refine Lib.hid ?_
      go_wp2
      go_ret
      exact ⟨rfl, HB.out _ _ _⟩

/-- Whether two texts remain two tokens. -/
def apB (a b : List UInt8) : Bool := decide (max (wl (a ++ b)) (sl (a ++ b)) = a.length)
theorem bytes_app (s t : ByteArray) : bytes (s ++ t) = bytes s ++ bytes t := by
  unfold bytes
  rw [ByteArray.data_append, Array.toList_append]

set_option maxHeartbeats 400000 in
theorem areApart_any (s t : ByteArray) (hs : s.size ≤ 1000000) (ht2 : t.size ≤ 1000000) (w : World) (ht : Lib.TabIs Tryd.prog w "surveyor/lexer.classes" .u8 clsTab) :
    Calls Tryd.prog 51 #[.string s, .string t] w fun e w' => e = .returned (.bool (apB (bytes s) (bytes t))) ∧ w' = w := by
  have hz : (s ++ t).size ≤ 2000000 := by rw [ByteArray.size_append]; omega
  have CW := wordLength_any (s ++ t) (by omega) w ht
  have CS := signLength_any (s ++ t) (by omega) w ht
  unfold apB
  rw [show (bytes s).length = s.size from rfl]
  rw [bytes_app] at CW CS
  generalize wl (bytes s ++ bytes t) = n at *
  generalize sl (bytes s ++ bytes t) = m at *
  have e : decide (max n m = s.size) = ((max (n : Int) (m : Int)) == (s.size : Int)) := by
    by_cases h : max n m = s.size
    · rw [decide_eq_true h]; symm; rw [beq_iff_eq]; omega
    · rw [decide_eq_false h]; symm; rw [beq_eq_false_iff_ne]; omega
  rw [e]
  have h9 : ¬ 9223372036854775807 < s.size + t.size := by omega
  have KW := Lib.hid CW; have KS := Lib.hid CS
  clear CW CS hz ht hs ht2 e
  go_enter Tryd.func51, Tryd.ntmps51
  go_wp2_with (go_at_call 74; refine KW.out.mono ?_; rintro e w3 ⟨rfl, h⟩; subst h; refine Hid.out ?_)
  refine Lib.hid ?_
  go_wp2_with (go_at_call 75; refine KS.out.mono ?_; rintro e w3 ⟨rfl, h⟩; subst h; refine Hid.out ?_)
  refine Lib.hid ?_
  go_wp2
  go_ret
  exact ⟨rfl, rfl⟩
end Go.Proofs.YtmogmneaomndeaaDoor
