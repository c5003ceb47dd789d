/-
  surveyorref08.Scan.
-/
import Derived.Test.YtmogmneaomndeaaDoorLexN
import Derived.Test.YtmogmneaomndeaaDoorLexH
set_option linter.unusedSimpArgs false
set_option linter.unusedVariables false
namespace Go.Proofs.YtmogmneaomndeaaDoor
open Go Go.Proofs Go.RowKit

/-- Where the next token is. -/
def PA (s : ByteArray) (a : Nat) : Nat := a + skM false ((bytes s).drop a)
theorem pa_blank {s : ByteArray} {a : Nat} (h : a < s.size) (hc : cls (byteAt s a) = 1) : PA s (a + 1) = PA s a := by unfold PA; rw [sk_blank h hc]; omega
theorem pa_hash {s : ByteArray} {a : Nat} (h : a < s.size) (hc : cls (byteAt s a) = 2) : PA s (a + (upTo 10 ((bytes s).drop a)).length) = PA s a ∧ 0 < (upTo 10 ((bytes s).drop a)).length ∧ a + (upTo 10 ((bytes s).drop a)).length ≤ s.size := by
  obtain ⟨h1, h2⟩ := sk_hash h hc
  have h3 := upTo_le 10 ((bytes s).drop a)
  rw [List.length_drop, bytes_length] at h3
  exact ⟨by unfold PA; omega, h2, by omega⟩
theorem pa_stop {s : ByteArray} {a : Nat} (h : a < s.size) (h1 : cls (byteAt s a) ≠ 1) (h2 : cls (byteAt s a) ≠ 2) : PA s a = a := by unfold PA; rw [sk_stop h h1 h2]; rfl
theorem pa_end {s : ByteArray} {a : Nat} (h : s.size ≤ a) : PA s a = a := by unfold PA; rw [sk_end h]; rfl
theorem pa_le {s : ByteArray} {a : Nat} (h : a ≤ s.size) : PA s a ≤ s.size := by
  have := skM_le false ((bytes s).drop a)
  rw [List.length_drop, bytes_length] at this
  unfold PA; omega
theorem nx_pa (s : ByteArray) (a : Nat) : nx s a = PA s (a + (tkT s a).t.size) := rfl
section
variable {s : ByteArray} {a : Nat}
theorem rest_bytes : bytes (s.extract a s.size) = (bytes s).drop a := by rw [extract_drop, bytes_str]
theorem rest_size : (s.extract a s.size).size = s.size - a := by rw [← bytes_length, rest_bytes, List.length_drop, bytes_length]
theorem rest_byte (h : a < s.size) : byteAt (s.extract a s.size) 0 = byteAt s a := by
  unfold byteAt
  rw [rest_bytes, List.getD_eq_getElem?_getD, List.getElem?_drop, List.getD_eq_getElem?_getD, Nat.add_zero]
theorem rest_take {n : Nat} (h : a + n ≤ s.size) : (s.extract a s.size).extract 0 n = s.extract a (a + n) := by
  have e : ∀ x y : ByteArray, bytes x = bytes y → x = y := fun x y h => by rw [← str_bytes x, h, str_bytes]
  apply e
  rw [extract_mid s h]
  have := extract_mid (s.extract a s.size) (a := 0) (n := n) (by rw [rest_size]; omega)
  rw [Nat.zero_add, List.drop_zero, rest_bytes] at this
  exact this
theorem cls35 (h : a < s.size) : (byteAt s a = 35) ↔ cls (byteAt s a) = 2 := by
  have := cls2 (byteAt s a) (byteAt_lt s a)
  rw [Bool.eq_iff_iff, decide_eq_true_iff, decide_eq_true_iff] at this
  exact this.symm
theorem rest_comment (h : a < s.size) : cmL (s.extract a s.size) = if cls (byteAt s a) = 2 then (upTo 10 ((bytes s).drop a)).length else 0 := by
  unfold cmL
  rw [rest_bytes, rest_byte h, rest_size]
  by_cases hc : cls (byteAt s a) = 2
  · rw [if_pos hc, if_pos ⟨by omega, (cls35 h).2 hc⟩]
  · rw [if_neg hc, if_neg (fun q => hc ((cls35 h).1 q.2))]
theorem wl_none (h : a < s.size) (h3 : cls (byteAt s a) ≠ 3) (h4 : cls (byteAt s a) ≠ 4) : wl ((bytes s).drop a) = 0 := by
  rw [drop_get s h]
  rw [byteAt_idx h] at h3 h4
  unfold wl wdB
  rw [List.takeWhile_cons]
  simp [h3, h4]
theorem tok_word (h : a < s.size) (hc : cls (byteAt s a) = 3 ∨ cls (byteAt s a) = 4) :
    0 < wl ((bytes s).drop a) ∧ a + wl ((bytes s).drop a) ≤ s.size ∧ (tokX s a).2 = wdE (s.extract a (a + wl ((bytes s).drop a))) ∧ tkT s a = ⟨if cls (byteAt s a) = 4 then 1 else 0, s.extract a (a + wl ((bytes s).drop a)), (a : Int)⟩ := by
  have h1 := wl_pos h hc
  have h2 := wl_le ((bytes s).drop a)
  rw [List.length_drop, bytes_length] at h2
  have h3 : a + wl ((bytes s).drop a) ≤ s.size := by omega
  have hs := extract_size s h3
  have hm := extract_mid s h3
  have hb : byteAt (s.extract a (a + wl ((bytes s).drop a))) 0 = byteAt s a := by
    unfold byteAt
    rw [hm, List.getD_eq_getElem?_getD, List.getElem?_take_of_lt (by omega), List.getElem?_drop, List.getD_eq_getElem?_getD, Nat.add_zero]
  refine ⟨h1, h3, ?_, ?_⟩
  · unfold wdE
    rw [hb, hs, hm]
    unfold tokX tkO
    rcases hc with hc | hc
    · rw [if_pos hc, if_neg (show ¬ cls (byteAt s a) = 4 by omega)]
      split <;> rfl
    · rw [if_neg (show ¬ cls (byteAt s a) = 3 by omega), if_pos hc, if_pos hc]
      split
      · rename_i e; exact e.symm
      · rfl
  · unfold tkT
    rcases hc with hc | hc
    · rw [if_pos hc, if_neg (show ¬ cls (byteAt s a) = 4 by omega)]
    · rw [if_neg (show ¬ cls (byteAt s a) = 3 by omega), if_pos hc, if_pos hc]
theorem tok_sign (h : a < s.size) (h3 : cls (byteAt s a) ≠ 3) (h4 : cls (byteAt s a) ≠ 4) :
    a + sl ((bytes s).drop a) ≤ s.size ∧ (tokX s a).2 = (if sl ((bytes s).drop a) = 0 then 4 else 0) ∧ tkT s a = ⟨2, s.extract a (a + sl ((bytes s).drop a)), (a : Int)⟩ := by
  have h2 := sl_le ((bytes s).drop a)
  rw [List.length_drop, bytes_length] at h2
  refine ⟨by omega, ?_, ?_⟩
  · unfold tokX tkO
    rw [if_neg h3, if_neg h4]
    split <;> rfl
  · unfold tkT
    rw [if_neg h3, if_neg h4]
end
theorem run_str_h {P : Program} (W : World) (t : TypeId) (s : ByteArray) (ht : P.underlying t = some .string) (h : Nat) (h2 : h ≤ s.size) :
    (Instr.slice t (.string s) none (some (.int .i64 (h : Int))) none).run P W = .ok (.string (s.extract 0 h)) W := by
  have g1 : (0 : Int) ≤ (h : Int) := by omega
  have g2 : (h : Int) ≤ (s.size : Int) := by omega
  simp [Instr.slice, run_underlying ht, Instr.sliceBounds, run_sliceBound, sliced, *]

set_option maxHeartbeats 1000000 in
theorem refScan_any (s : ByteArray) (w : World) :
    Calls Tryd.prog 13 #[.string s] w fun e w' => ∃ v, e = .returned (.tuple #[v, .int .i64 ((scR s).2.1 : Nat), .int .i64 ((scR s).2.2 : Nat)]) ∧ w'.ownsRow w.heap.size 49 3 v (scR s).1.length (tkCells (scR s).1) ∧ Below w.heap.size w w' := by
  unfold scR
  by_cases hlong : 65536 < s.size
  · rw [if_pos hlong]
    have g : decide ((65536 : Int) < (s.size : Int)) = true := by rw [decide_eq_true_iff]; omega
    have HLO := Lib.hid hlong
    clear hlong
    go_enter Tryd.func13, Tryd.ntmps13
    go_wp2
    refine bodyPost_ret (by simp [results, Tryd.results13, go_sem]; rfl) rfl ?_
    exact ⟨_, rfl, World.ownsRow_nil .., Below.refl _ _⟩
  rw [if_neg hlong]
  have g : decide ((65536 : Int) < (s.size : Int)) = false := by rw [decide_eq_false_iff_not]; omega
  have hs : s.size ≤ 65536 := by omega
  have hp0 : PA s 0 = skM false (bytes s) := by unfold PA; rw [List.drop_zero, Nat.zero_add]
  rw [← hp0]
  obtain ⟨R, hR⟩ : ∃ R, scF s (s.size + 1) (PA s 0) = R := ⟨_, rfl⟩
  rw [hR]
  obtain ⟨G, hG⟩ : ∃ G, G = (if R.2.2 = 0 then R else ([], R.2)) := ⟨_, rfl⟩
  rw [← hG]
  have KG := Lib.hid hG; have HR := Lib.hid hR; have HS := Lib.hid hs; have HNL := Lib.hid hlong
  clear hG hR hs hp0 hlong
  go_enter Tryd.func13, Tryd.ntmps13
  go_wp2_with fail
  go_loopw [5, 6] (fun v iv wr => ∃ (f a n : Nat) (acc : List Tk), acc.length = n ∧ n ≤ a ∧ a ≤ s.size ∧ iv = .int .i64 (a : Int) ∧ s.size < a + f ∧ R = (acc ++ (scF s f (PA s a)).1, (scF s f (PA s a)).2) ∧ wr.ownsRow w.heap.size 49 3 v n (tkCells acc) ∧ Below w.heap.size w wr) (fun _ iv _ => s.size - (intOf iv).toNat)
  case atStart => exact ⟨s.size + 1, 0, 0, [], rfl, Nat.zero_le _, Nat.zero_le _, rfl, by omega, HR.out.symm, World.ownsRow_nil .., Below.refl _ _⟩
  case round =>
    obtain ⟨f, a, n, acc, hn, hna, ha, rfl, hf, hRR, ho, hB⟩ := hrel
    have hS := HS.out
    obtain ⟨f, rfl⟩ : ∃ g, f = g + 1 := ⟨f - 1, by omega⟩
    by_cases hlt : a < s.size
    · have g0 : (0 : Int) ≤ (a : Int) := by omega
      have g1 : (a : Int) < (s.size : Int) := by omega
      have g2 : (a : Int) ≤ (s.size : Int) := by omega
      have hDs := rest_size (s := s) (a := a)
      have hD0 : 0 < (s.extract a s.size).size := by omega
      have hDi : (0 : Int) < ((s.extract a s.size).size : Int) := by omega
      have hb := byteAt_get (s.extract a s.size) 0 hD0
      rw [rest_byte hlt] at hb
      have hrund : ∀ W : World, (Instr.slice 9 (.string s) (some (.int .i64 (a : Int))) none none).run Tryd.prog W = .ok (.string (s.extract a s.size)) W := fun W => by
        simp [Instr.slice, run_underlying Tryd.underlying9, Instr.sliceBounds, run_sliceBound, sliced, g0, g2]
      have hrunk : ∀ k : Nat, a + k ≤ s.size → ∀ W : World, (Instr.slice 9 (.string (s.extract a s.size)) none (some (.int .i64 (k : Int))) none).run Tryd.prog W = .ok (.string (s.extract a (a + k))) W := fun k hk W => by
        rw [← rest_take hk]
        exact run_str_h W 9 _ Tryd.underlying9 k (by rw [rest_size]; omega)
      have CB := blank_any (byteAt s a) (byteAt_lt s a)
      have CDg := digit_any (byteAt s a) (byteAt_lt s a)
      have CC := comment_any (s.extract a s.size) (by omega)
      rw [rest_comment hlt] at CC
      have CW := refWord_any (s.extract a s.size) (by omega)
      have CS := refSign_any (s.extract a s.size) (by omega)
      rw [rest_bytes] at CW CS
      by_cases h1 : cls (byteAt s a) = 1
      · have hpa := pa_blank hlt h1
        rw [decide_eq_true h1] at CB
        have ea : wrap64 ((a : Int) + 1) = (a : Int) + 1 := by unfold wrap64; omega
        generalize s.extract a s.size = D at *
        generalize byteAt s a = b at *
        have KB := Lib.hid CB; have HO := Lib.hid ho; have HB := Lib.hid hB; have HN := Lib.hid hn
        have HP : Hid (R = (acc ++ (scF s (f + 1) (PA s (a + 1))).1, (scF s (f + 1) (PA s (a + 1))).2)) := Lib.hid (by rw [hpa]; exact hRR)
        have HQ : Hid (n ≤ a ∧ a < s.size ∧ s.size < a + (f + 1)) := Lib.hid ⟨hna, hlt, hf⟩
        clear CB CDg CC CW CS ho hB hn hRR h1 hpa hna hf ha hS
        go_wp2_with (go_at_call 39; refine (KB.out _).mono ?_; rintro e w3 ⟨rfl, h⟩; subst h; refine Hid.out ?_)
        refine Lib.hid ?_
        go_wp2
        go_roundw
        case rel => exact ⟨f + 1, a + 1, n, acc, HN.out, by have := HQ.out; omega, by have := HQ.out; omega, congrArg (Value.int .i64) (ea.trans (Int.natCast_add a 1).symm), by have := HQ.out; omega, HP.out, HO.out, HB.out⟩
        case measure => have := HQ.out; rw [ea]; show s.size - ((a : Int) + 1).toNat < s.size - ((a : Int)).toNat; omega
      rw [decide_eq_false h1] at CB
      by_cases h2 : cls (byteAt s a) = 2
      · obtain ⟨hpa, hu0, hua⟩ := pa_hash hlt h2
        rw [if_pos h2] at CC
        generalize (upTo 10 ((bytes s).drop a)).length = u at *
        generalize s.extract a s.size = D at *
        generalize byteAt s a = b at *
        have gu : decide ((0 : Int) < (u : Int)) = true := by rw [decide_eq_true_iff]; omega
        have gu2 : decide (0 < u) = true := by rw [decide_eq_true_iff]; omega
        have ea : wrap64 ((a : Int) + (u : Int)) = (a : Int) + (u : Int) := by unfold wrap64; omega
        have KB := Lib.hid CB; have KC := Lib.hid CC; have HO := Lib.hid ho; have HB := Lib.hid hB; have HN := Lib.hid hn
        have HP : Hid (R = (acc ++ (scF s (f + 1) (PA s (a + u))).1, (scF s (f + 1) (PA s (a + u))).2)) := Lib.hid (by rw [hpa]; exact hRR)
        have HQ : Hid (n ≤ a ∧ a + u ≤ s.size ∧ s.size < a + (f + 1) ∧ 0 < u) := Lib.hid ⟨hna, hua, hf, hu0⟩
        clear CB CDg CC CW CS ho hB hn hRR h1 h2 hpa hna hf ha hS hu0 hua
        go_wp2_with (go_at_call 39; refine (KB.out _).mono ?_; rintro e w3 ⟨rfl, h⟩; subst h; refine Hid.out ?_)
        refine Lib.hid ?_
        go_wp2_with (go_at_call 40; refine (KC.out _).mono ?_; rintro e w3 ⟨rfl, h⟩; subst h; refine Hid.out ?_)
        refine Lib.hid ?_
        go_wp2_with (go_at_call 40; refine (KC.out _).mono ?_; rintro e w3 ⟨rfl, h⟩; subst h; refine Hid.out ?_)
        refine Lib.hid ?_
        go_wp2
        go_roundw
        case rel => exact ⟨f + 1, a + u, n, acc, HN.out, by have := HQ.out; omega, by have := HQ.out; omega, congrArg (Value.int .i64) (by first | exact (Int.natCast_add a u).symm | exact ea.trans (Int.natCast_add a u).symm), by have := HQ.out; omega, HP.out, HO.out, HB.out⟩
        case measure => have := HQ.out; first | (show s.size - ((a : Int) + (u : Int)).toNat < s.size - ((a : Int)).toNat; omega) | (rw [ea]; show s.size - ((a : Int) + (u : Int)).toNat < s.size - ((a : Int)).toNat; omega)
      rw [if_neg h2] at CC
      rw [pa_stop hlt h1 h2] at hRR
      by_cases hc : cls (byteAt s a) = 3 ∨ cls (byteAt s a) = 4
      · obtain ⟨hm0, ham, hE, hT⟩ := tok_word hlt hc
        have hXs := extract_size s ham
        have hX := hrunk _ ham
        have CX := refword_any (s.extract a (a + wl ((bytes s).drop a))) (by omega) (by omega)
        have hbad := fun q => scF_bad (f := f) hlt (q : (tokX s a).2 ≠ 0)
        have hok := fun q => scF_ok (f := f) hlt (q : (tokX s a).2 = 0)
        rw [nx_pa, hT] at hok
        have hok2 : (tokX s a).2 = 0 → scF s (f + 1) a = (⟨if cls (byteAt s a) = 4 then 1 else 0, s.extract a (a + wl ((bytes s).drop a)), (a : Int)⟩ :: (scF s f (PA s (a + wl ((bytes s).drop a)))).1, (scF s f (PA s (a + wl ((bytes s).drop a)))).2) := fun q => by
          have := hok q
          rw [show (⟨if cls (byteAt s a) = 4 then 1 else 0, s.extract a (a + wl ((bytes s).drop a)), (a : Int)⟩ : Tk).t.size = wl ((bytes s).drop a) from hXs] at this
          exact this
        rw [hE] at hbad hok2
        have hka : (if cls (byteAt s a) = 4 then (1 : Int) else 0) = if decide (cls (byteAt s a) = 4) = true then 1 else 0 := by
          by_cases q : cls (byteAt s a) = 4
          · rw [if_pos q, if_pos (by simpa using q)]
          · rw [if_neg q, if_neg (by simpa using q)]
        rw [hka] at hok2
        clear hok hE hT hka hc
        generalize wl ((bytes s).drop a) = m at *
        generalize s.extract a (a + m) = X at *
        generalize wdE X = ne at *
        generalize s.extract a s.size = D at *
        generalize decide (cls (byteAt s a) = 4) = v at *
        generalize byteAt s a = b at *
        have gm : decide ((0 : Int) < (m : Int)) = true := by rw [decide_eq_true_iff]; omega
        have gm2 : decide (0 < m) = true := by rw [decide_eq_true_iff]; omega
        have ea : wrap64 ((a : Int) + (m : Int)) = (a : Int) + (m : Int) := by unfold wrap64; omega
        have KB := Lib.hid CB; have KC := Lib.hid CC; have KW := Lib.hid CW; have KX := Lib.hid CX; have KD := Lib.hid CDg
        have HO := Lib.hid ho; have HB := Lib.hid hB; have HN := Lib.hid hn
        have HQ : Hid (n ≤ a ∧ a + m ≤ s.size ∧ s.size < a + (f + 1) ∧ 0 < m) := Lib.hid ⟨hna, ham, hf, hm0⟩
        clear CB CC CW CX CDg CS ho hB hn h1 h2 hna hf ha hS hm0 ham hrunk hXs hlt
        by_cases he : ne = 0
        · subst he
          have hst : R = ((acc ++ [⟨if v = true then 1 else 0, X, (a : Int)⟩]) ++ (scF s f (PA s (a + m))).1, (scF s f (PA s (a + m))).2) := by
            rw [hRR, hok2 rfl]; simp
          have hwl : (acc ++ [(⟨if v = true then 1 else 0, X, (a : Int)⟩ : Tk)]).length = n + 1 := by simp [HN.out]
          cases v
          · have HST : Hid (R = ((acc ++ [⟨0, X, (a : Int)⟩]) ++ (scF s f (PA s (a + m))).1, (scF s f (PA s (a + m))).2)) := Lib.hid hst
            have HWL : Hid ((acc ++ [(⟨0, X, (a : Int)⟩ : Tk)]).length = n + 1) := Lib.hid hwl
            clear hst hwl hRR hok2 hbad
            go_wp2_with (go_at_call 39; refine (KB.out _).mono ?_; rintro e w3 ⟨rfl, h⟩; subst h; refine Hid.out ?_)
            refine Lib.hid ?_
            go_wp2_with (go_at_call 40; refine (KC.out _).mono ?_; rintro e w3 ⟨rfl, h⟩; subst h; refine Hid.out ?_)
            refine Lib.hid ?_
            go_wp2_with (go_at_call 41; refine (KW.out _).mono ?_; rintro e w3 ⟨rfl, h⟩; subst h; refine Hid.out ?_)
            refine Lib.hid ?_
            go_wp2_with (go_at_call 42; refine (KX.out _).mono ?_; rintro e w3 ⟨rfl, h⟩; subst h; refine Hid.out ?_)
            refine Lib.hid ?_
            go_wp2_with (go_at_call 43; refine (KD.out _).mono ?_; rintro e w3 ⟨rfl, h⟩; subst h; refine Hid.out ?_)
            refine Lib.hid ?_
            have A1 := (Below.refl w3.heap.size w3).alloc (Nat.le_refl _) (Obj.cells #[.int .i64 0, .string X, .int .i64 (a : Int)] 49)
            have O5 := owns_below3 HO.out A1
            have B5 := Below.chain HB.out A1
            have hv4 : ∀ b, Value.ownBlock _ = some b → w.heap.size ≤ b ∧ b < w3.heap.size := fun b e => owns_lt3 HO.out e
            have hz5 := B5.size
            have HO5 := Lib.hid O5; have HB5 := Lib.hid B5; have HV4 := Lib.hid hv4; have HZ5 := Lib.hid hz5
            have hnle : n ≤ 1200000 := by have := HQ.out; have := HS.out; omega
            have HNLE := Lib.hid hnle
            clear A1 O5 B5 hv4 hz5 HO hnle
            go_wp2_with (first | (at_builtin; refine wpList_append_tok rfl (.tmp 49) (.tmp 56) rfl w.heap.size _ n acc HN.out (by simp [Act.eval, Act.put]) HO5.out HNLE.out HZ5.out w3.heap.size ⟨0, X, (a : Int)⟩ (by simp [Act.eval, Act.put]) (by go_cell) (by go_cell) (by go_cell) ?_; intro g6 cap6 w6 ho6 hg6 hgg6; refine Hid.out ?_) | fail)
            have hb6 := HB5.out.grown hg6 HZ5.out (fun b hb => (HV4.out b hb).1)
            have HO6 := Lib.hid ho6; have HB6 := Lib.hid hb6
            clear ho6 hg6 hgg6 hb6
            refine Lib.hid ?_
            go_wp2
            go_roundw
            case rel => exact ⟨f, a + m, n + 1, _, HWL.out, by have := HQ.out; omega, by have := HQ.out; omega, congrArg (Value.int .i64) (by first | exact (Int.natCast_add a m).symm | exact ea.trans (Int.natCast_add a m).symm), by have := HQ.out; omega, HST.out, HO6.out, HB6.out⟩
            case measure => have := HQ.out; first | (show s.size - ((a : Int) + (m : Int)).toNat < s.size - ((a : Int)).toNat; omega) | (rw [ea]; show s.size - ((a : Int) + (m : Int)).toNat < s.size - ((a : Int)).toNat; omega)
          · have HST : Hid (R = ((acc ++ [⟨1, X, (a : Int)⟩]) ++ (scF s f (PA s (a + m))).1, (scF s f (PA s (a + m))).2)) := Lib.hid hst
            have HWL : Hid ((acc ++ [(⟨1, X, (a : Int)⟩ : Tk)]).length = n + 1) := Lib.hid hwl
            clear hst hwl hRR hok2 hbad
            go_wp2_with (go_at_call 39; refine (KB.out _).mono ?_; rintro e w3 ⟨rfl, h⟩; subst h; refine Hid.out ?_)
            refine Lib.hid ?_
            go_wp2_with (go_at_call 40; refine (KC.out _).mono ?_; rintro e w3 ⟨rfl, h⟩; subst h; refine Hid.out ?_)
            refine Lib.hid ?_
            go_wp2_with (go_at_call 41; refine (KW.out _).mono ?_; rintro e w3 ⟨rfl, h⟩; subst h; refine Hid.out ?_)
            refine Lib.hid ?_
            go_wp2_with (go_at_call 42; refine (KX.out _).mono ?_; rintro e w3 ⟨rfl, h⟩; subst h; refine Hid.out ?_)
            refine Lib.hid ?_
            go_wp2_with (go_at_call 43; refine (KD.out _).mono ?_; rintro e w3 ⟨rfl, h⟩; subst h; refine Hid.out ?_)
            refine Lib.hid ?_
            have A1 := (Below.refl w3.heap.size w3).alloc (Nat.le_refl _) (Obj.cells #[.int .i64 1, .string X, .int .i64 (a : Int)] 49)
            have O5 := owns_below3 HO.out A1
            have B5 := Below.chain HB.out A1
            have hv4 : ∀ b, Value.ownBlock _ = some b → w.heap.size ≤ b ∧ b < w3.heap.size := fun b e => owns_lt3 HO.out e
            have hz5 := B5.size
            have HO5 := Lib.hid O5; have HB5 := Lib.hid B5; have HV4 := Lib.hid hv4; have HZ5 := Lib.hid hz5
            have hnle : n ≤ 1200000 := by have := HQ.out; have := HS.out; omega
            have HNLE := Lib.hid hnle
            clear A1 O5 B5 hv4 hz5 HO hnle
            go_wp2_with (first | (at_builtin; refine wpList_append_tok rfl (.tmp 49) (.tmp 56) rfl w.heap.size _ n acc HN.out (by simp [Act.eval, Act.put]) HO5.out HNLE.out HZ5.out w3.heap.size ⟨1, X, (a : Int)⟩ (by simp [Act.eval, Act.put]) (by go_cell) (by go_cell) (by go_cell) ?_; intro g6 cap6 w6 ho6 hg6 hgg6; refine Hid.out ?_) | fail)
            have hb6 := HB5.out.grown hg6 HZ5.out (fun b hb => (HV4.out b hb).1)
            have HO6 := Lib.hid ho6; have HB6 := Lib.hid hb6
            clear ho6 hg6 hgg6 hb6
            refine Lib.hid ?_
            go_wp2
            go_roundw
            case rel => exact ⟨f, a + m, n + 1, _, HWL.out, by have := HQ.out; omega, by have := HQ.out; omega, congrArg (Value.int .i64) (by first | exact (Int.natCast_add a m).symm | exact ea.trans (Int.natCast_add a m).symm), by have := HQ.out; omega, HST.out, HO6.out, HB6.out⟩
            case measure => have := HQ.out; first | (show s.size - ((a : Int) + (m : Int)).toNat < s.size - ((a : Int)).toNat; omega) | (rw [ea]; show s.size - ((a : Int) + (m : Int)).toNat < s.size - ((a : Int)).toNat; omega)
        · rw [hbad he] at hRR
          have hG2 : G = ([], a, ne) := by rw [KG.out, hRR]; exact if_neg he
          have tne : ((ne : Int) == 0) = false := by rw [beq_eq_false_iff_ne]; omega
          have tne2 : ((ne : Int) != 0) = true := by rw [bne_iff_ne]; omega
          have HG2 := Lib.hid hG2; have HE := Lib.hid he
          clear hG2 he hRR hok2 hbad
          go_wp2_with (go_at_call 39; refine (KB.out _).mono ?_; rintro e w3 ⟨rfl, h⟩; subst h; refine Hid.out ?_)
          refine Lib.hid ?_
          go_wp2_with (go_at_call 40; refine (KC.out _).mono ?_; rintro e w3 ⟨rfl, h⟩; subst h; refine Hid.out ?_)
          refine Lib.hid ?_
          go_wp2_with (go_at_call 41; refine (KW.out _).mono ?_; rintro e w3 ⟨rfl, h⟩; subst h; refine Hid.out ?_)
          refine Lib.hid ?_
          go_wp2_with (go_at_call 42; refine (KX.out _).mono ?_; rintro e w3 ⟨rfl, h⟩; subst h; refine Hid.out ?_)
          refine Lib.hid ?_
          go_wp2
          refine bodyPost_ret (by simp [results, Tryd.results13, go_sem]; rfl) rfl ?_
          rw [HG2.out]
          exact ⟨_, rfl, World.ownsRow_nil .., HB.out⟩
      have h3 : cls (byteAt s a) ≠ 3 := fun q => hc (.inl q)
      have h4 : cls (byteAt s a) ≠ 4 := fun q => hc (.inr q)
      obtain ⟨ham, hE, hT⟩ := tok_sign hlt h3 h4
      rw [wl_none hlt h3 h4] at CW
      have hXs := extract_size s ham
      have hX := hrunk _ ham
      have hbad := fun q => scF_bad (f := f) hlt (q : (tokX s a).2 ≠ 0)
      have hok := fun q => scF_ok (f := f) hlt (q : (tokX s a).2 = 0)
      rw [nx_pa, hT] at hok
      have hok2 : (tokX s a).2 = 0 → scF s (f + 1) a = (⟨2, s.extract a (a + sl ((bytes s).drop a)), (a : Int)⟩ :: (scF s f (PA s (a + sl ((bytes s).drop a)))).1, (scF s f (PA s (a + sl ((bytes s).drop a)))).2) := fun q => by
        have := hok q
        rw [show (⟨2, s.extract a (a + sl ((bytes s).drop a)), (a : Int)⟩ : Tk).t.size = sl ((bytes s).drop a) from hXs] at this
        exact this
      rw [hE] at hbad hok2
      clear hok hE hT hc h3 h4
      generalize sl ((bytes s).drop a) = m at *
      generalize s.extract a (a + m) = X at *
      generalize s.extract a s.size = D at *
      generalize byteAt s a = b at *
      have ea : wrap64 ((a : Int) + (m : Int)) = (a : Int) + (m : Int) := by unfold wrap64; omega
      have KB := Lib.hid CB; have KC := Lib.hid CC; have KW := Lib.hid CW; have KS := Lib.hid CS
      have HO := Lib.hid ho; have HB := Lib.hid hB; have HN := Lib.hid hn
      by_cases hm0 : m = 0
      · subst hm0
        have hbad := hbad (by simp)
        rw [if_pos rfl] at hbad
        rw [hbad] at hRR
        have hG2 : G = ([], a, 4) := by rw [KG.out, hRR]; exact if_neg (by simp)
        have HG2 := Lib.hid hG2
        clear CB CC CW CDg CS ho hB hn h1 h2 hna hf ha hS ham hrunk hXs hlt hok2 hbad hRR hG2
        go_wp2_with (go_at_call 39; refine (KB.out _).mono ?_; rintro e w3 ⟨rfl, h⟩; subst h; refine Hid.out ?_)
        refine Lib.hid ?_
        go_wp2_with (go_at_call 40; refine (KC.out _).mono ?_; rintro e w3 ⟨rfl, h⟩; subst h; refine Hid.out ?_)
        refine Lib.hid ?_
        go_wp2_with (go_at_call 41; refine (KW.out _).mono ?_; rintro e w3 ⟨rfl, h⟩; subst h; refine Hid.out ?_)
        refine Lib.hid ?_
        go_wp2_with (go_at_call 44; refine (KS.out _).mono ?_; rintro e w3 ⟨rfl, hb3⟩; refine Hid.out ?_)
        have HB3 := Lib.hid (Below.chain HB.out hb3)
        clear hb3
        refine Lib.hid ?_
        go_wp2
        refine bodyPost_ret (by simp [results, Tryd.results13, go_sem]; rfl) rfl ?_
        rw [HG2.out]
        exact ⟨_, rfl, World.ownsRow_nil .., HB3.out⟩
      · have hst : R = ((acc ++ [⟨2, X, (a : Int)⟩]) ++ (scF s f (PA s (a + m))).1, (scF s f (PA s (a + m))).2) := by
          rw [hRR, hok2 (if_neg hm0)]; simp
        have hwl : (acc ++ [(⟨2, X, (a : Int)⟩ : Tk)]).length = n + 1 := by simp [HN.out]
        have gm : decide ((0 : Int) < (m : Int)) = true := by rw [decide_eq_true_iff]; omega
        have gm2 : decide (0 < m) = true := by rw [decide_eq_true_iff]; omega
        have HQ : Hid (n ≤ a ∧ a + m ≤ s.size ∧ s.size < a + (f + 1) ∧ 0 < m) := Lib.hid ⟨hna, ham, hf, by omega⟩
        have HST := Lib.hid hst; have HWL := Lib.hid hwl; have HM0 := Lib.hid hm0
        clear CB CC CW CDg CS ho hB hn h1 h2 hna hf ha hS ham hrunk hXs hlt hok2 hbad hRR hst hwl hm0
        go_wp2_with (go_at_call 39; refine (KB.out _).mono ?_; rintro e w3 ⟨rfl, h⟩; subst h; refine Hid.out ?_)
        refine Lib.hid ?_
        go_wp2_with (go_at_call 40; refine (KC.out _).mono ?_; rintro e w3 ⟨rfl, h⟩; subst h; refine Hid.out ?_)
        refine Lib.hid ?_
        go_wp2_with (go_at_call 41; refine (KW.out _).mono ?_; rintro e w3 ⟨rfl, h⟩; subst h; refine Hid.out ?_)
        refine Lib.hid ?_
        go_wp2_with (go_at_call 44; refine (KS.out _).mono ?_; rintro e w4 ⟨rfl, hb4⟩; refine Hid.out ?_)
        have HO := Lib.hid (owns_below3 HO.out hb4)
        have HB := Lib.hid (Below.chain HB.out hb4)
        clear hb4
        refine Lib.hid ?_
        have A1 := (Below.refl w4.heap.size w4).alloc (Nat.le_refl _) (Obj.cells #[.int .i64 2, .string X, .int .i64 (a : Int)] 49)
        have O5 := owns_below3 HO.out A1
        have B5 := Below.chain HB.out A1
        have hv4 : ∀ b, Value.ownBlock _ = some b → w.heap.size ≤ b ∧ b < w4.heap.size := fun b e => owns_lt3 HO.out e
        have hz5 := B5.size
        have HO5 := Lib.hid O5; have HB5 := Lib.hid B5; have HV4 := Lib.hid hv4; have HZ5 := Lib.hid hz5
        have hnle : n ≤ 1200000 := by have := HQ.out; have := HS.out; omega
        have HNLE := Lib.hid hnle
        clear A1 O5 B5 hv4 hz5 HO hnle
        go_wp2_with (first | (at_builtin; refine wpList_append_tok rfl (.tmp 65) (.tmp 71) rfl w.heap.size _ n acc HN.out (by simp [Act.eval, Act.put]) HO5.out HNLE.out HZ5.out w4.heap.size ⟨2, X, (a : Int)⟩ (by simp [Act.eval, Act.put]) (by go_cell) (by go_cell) (by go_cell) ?_; intro g6 cap6 w6 ho6 hg6 hgg6; refine Hid.out ?_) | fail)
        have hb6 := HB5.out.grown hg6 HZ5.out (fun b hb => (HV4.out b hb).1)
        have HO6 := Lib.hid ho6; have HB6 := Lib.hid hb6
        clear ho6 hg6 hgg6 hb6
        refine Lib.hid ?_
        go_wp2
        go_roundw
        case rel => exact ⟨f, a + m, n + 1, _, HWL.out, by have := HQ.out; omega, by have := HQ.out; omega, congrArg (Value.int .i64) (by first | exact (Int.natCast_add a m).symm | exact ea.trans (Int.natCast_add a m).symm), by have := HQ.out; omega, HST.out, HO6.out, HB6.out⟩
        case measure => have := HQ.out; first | (show s.size - ((a : Int) + (m : Int)).toNat < s.size - ((a : Int)).toNat; omega) | (rw [ea]; show s.size - ((a : Int) + (m : Int)).toNat < s.size - ((a : Int)).toNat; omega)
    · obtain rfl : a = s.size := by omega
      rw [pa_end (Nat.le_refl _), scF_end (Nat.le_refl _)] at hRR
      have hG2 : G = (acc ++ [(⟨3, ⟨#[]⟩, (s.size : Int)⟩ : Tk)], 0, 0) := by rw [KG.out, hRR]; exact if_pos rfl
      have HG2 := Lib.hid hG2; clear hG2
      have hge : ¬ ((s.size : Nat) : Int) < (s.size : Int) := by omega
      have A1 := (Below.refl wr.heap.size wr).alloc (Nat.le_refl _) (Obj.cells #[.int .i64 3, .string ⟨#[]⟩, .int .i64 (s.size : Int)] 49)
      have O5 := owns_below3 ho A1
      have B5 := Below.chain hB A1
      have hv4 : ∀ b, Value.ownBlock _ = some b → w.heap.size ≤ b ∧ b < wr.heap.size := fun b e => owns_lt3 ho e
      have hnle : n ≤ 1200000 := by omega
      have hz5 := B5.size
      have HO5 := Lib.hid O5; have HB5 := Lib.hid B5; have HV4 := Lib.hid hv4; have HNLE := Lib.hid hnle; have HZ5 := Lib.hid hz5; have HN := Lib.hid hn
      have hfin : (acc ++ [(⟨3, ⟨#[]⟩, (s.size : Int)⟩ : Tk)]).length = n + 1 := by simp [hn]
      have HF := Lib.hid hfin
      clear A1 O5 B5 hv4 hnle hz5 ho hB hn hna ha hf hS hfin hlt HR hRR
      go_wp2_with (first | (at_builtin; refine wpList_append_tok rfl (.tmp 77) (.tmp 81) rfl w.heap.size _ n acc HN.out (by simp [Act.eval, Act.put]) HO5.out HNLE.out HZ5.out wr.heap.size ⟨3, ⟨#[]⟩, (s.size : Int)⟩ (by simp [Act.eval, Act.put]) (by go_cell) (by go_cell) (by go_cell) ?_; intro g6 cap6 w6 ho6 hg6 hgg6; refine Hid.out ?_) | fail)
      have hb6 := HB5.out.grown hg6 HZ5.out (fun b hb => (HV4.out b hb).1)
      have HO6 := Lib.hid ho6; have HB6 := Lib.hid hb6
      clear ho6 hg6 hgg6 hb6
      refine Lib.hid ?_
      go_wp2
      refine bodyPost_ret (by simp [results, Tryd.results13, go_sem]; rfl) rfl ?_
      rw [HG2.out]
      refine ⟨_, rfl, ?_, HB6.out⟩
      show w6.ownsRow _ _ _ _ (acc ++ [(⟨3, ⟨#[]⟩, (s.size : Int)⟩ : Tk)]).length _
      rw [HF.out]
      exact HO6.out
end Go.Proofs.YtmogmneaomndeaaDoor
