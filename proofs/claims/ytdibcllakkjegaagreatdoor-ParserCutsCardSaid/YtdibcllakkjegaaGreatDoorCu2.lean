import Derived.Test.YtdibcllakkjegaaGreatDoorCut5
import Derived.Test.YtdibcllakkjegaaGreatDoorCu1
import Derived.Test.YtdibcllakkjegaaGreatDoorCut4
import Derived.Test.YtdibcllakkjegaaGreatDoorCut6
import Derived.Test.YtdibcllakkjegaaGreatDoorCut31
import Derived.Test.YtdibcllakkjegaaGreatDoorCut32
import Derived.Test.YtdibcllakkjegaaGreatDoorCut29
import Derived.Test.YtdibcllakkjegaaGreatDoorCut30
import Derived.Lib.QuietBelow

set_option linter.unusedVariables false
/-
  surveyorref08.Scan.
-/
set_option linter.unusedSimpArgs false
set_option linter.unusedVariables false
namespace Go.Proofs.YtdibcllakkjegaaGreatDoor
open Go Go.Proofs Go.RowKit

theorem pa_blank {s : ByteArray} {a : Nat} (h : a < s.size) (hc : cls (byteAt s a) = 1) : PA s (a + 1) = PA s a := by unfold PA; rw [sk_blank h hc]; omega
theorem pa_hash {s : ByteArray} {a : Nat} (h : a < s.size) (hc : cls (byteAt s a) = 2) : PA s (a + (upTo 10 ((bytes s).drop a)).length) = PA s a ∧ 0 < (upTo 10 ((bytes s).drop a)).length ∧ a + (upTo 10 ((bytes s).drop a)).length ≤ s.size := by
  obtain ⟨h1, h2⟩ := sk_hash h hc
  have h3 := upTo_le 10 ((bytes s).drop a)
  rw [List.length_drop, bytes_length] at h3
  exact ⟨by unfold PA; omega, h2, by omega⟩
theorem pa_stop {s : ByteArray} {a : Nat} (h : a < s.size) (h1 : cls (byteAt s a) ≠ 1) (h2 : cls (byteAt s a) ≠ 2) : PA s a = a := by unfold PA; rw [sk_stop h h1 h2]; rfl
theorem pa_end {s : ByteArray} {a : Nat} (h : s.size ≤ a) : PA s a = a := by unfold PA; rw [sk_end h]; rfl
section
variable {s : ByteArray} {a : Nat}
theorem rest_bytes : bytes (s.extract a s.size) = (bytes s).drop a := by rw [extract_drop, bytes_str]
theorem rest_size : (s.extract a s.size).size = s.size - a := by rw [← bytes_length, rest_bytes, List.length_drop, bytes_length]
theorem rest_byte (h : a < s.size) : byteAt (s.extract a s.size) 0 = byteAt s a := by
  unfold byteAt
  rw [rest_bytes, List.getD_eq_getElem?_getD, List.getElem?_drop, List.getD_eq_getElem?_getD, Nat.add_zero]
theorem rest_take {n : Nat} (h : a + n ≤ s.size) : (s.extract a s.size).extract 0 n = s.extract a (a + n) := by
  have e : ∀ x y : ByteArray, bytes x = bytes y → x = y := fun x y h => by rw [← str_bytes x, h, str_bytes]
  apply e
  rw [extract_mid s h]
  have := extract_mid (s.extract a s.size) (a := 0) (n := n) (by rw [rest_size]; omega)
  rw [Nat.zero_add, List.drop_zero, rest_bytes] at this
  exact this
theorem cls35 (h : a < s.size) : (byteAt s a = 35) ↔ cls (byteAt s a) = 2 := by
  have := cls2 (byteAt s a) (byteAt_lt s a)
  rw [Bool.eq_iff_iff, decide_eq_true_iff, decide_eq_true_iff] at this
  exact this.symm
theorem rest_comment (h : a < s.size) : cmL (s.extract a s.size) = if cls (byteAt s a) = 2 then (upTo 10 ((bytes s).drop a)).length else 0 := by
  unfold cmL
  rw [rest_bytes, rest_byte h, rest_size]
  by_cases hc : cls (byteAt s a) = 2
  · rw [if_pos hc, if_pos ⟨by omega, (cls35 h).2 hc⟩]
  · rw [if_neg hc, if_neg (fun q => hc ((cls35 h).1 q.2))]
theorem wl_none (h : a < s.size) (h3 : cls (byteAt s a) ≠ 3) (h4 : cls (byteAt s a) ≠ 4) : wl ((bytes s).drop a) = 0 := by
  rw [drop_get s h]
  rw [byteAt_idx h] at h3 h4
  unfold wl wdB
  rw [List.takeWhile_cons]
  simp [h3, h4]
end
theorem run_str_h {P : Program} (W : World) (t : TypeId) (s : ByteArray) (ht : P.underlying t = some .string) (h : Nat) (h2 : h ≤ s.size) :
    (Instr.slice t (.string s) none (some (.int .i64 (h : Int))) none).run P W = .ok (.string (s.extract 0 h)) W := by
  have g1 : (0 : Int) ≤ (h : Int) := by omega
  have g2 : (h : Int) ≤ (s.size : Int) := by omega
  simp [Instr.slice, run_underlying ht, Instr.sliceBounds, run_sliceBound, sliced, *]

set_option maxHeartbeats 1000000 in
theorem refScan_any (s : ByteArray) (w : World) :
    Calls Tryz.prog 28 #[.string s] w fun e w' => ∃ v, e = .returned (.tuple #[v, .int .i64 ((scR s).2.1 : Nat), .int .i64 ((scR s).2.2 : Nat)]) ∧ w'.ownsRow w.heap.size 47 3 v (scR s).1.length (tkCells (scR s).1) ∧ Below w.heap.size w w' := by
  unfold scR
  by_cases hlong : 65536 < s.size
  · rw [if_pos hlong]
    have g : decide ((65536 : Int) < (s.size : Int)) = true := by rw [decide_eq_true_iff]; omega
    have HLO := Lib.hid hlong
    clear hlong
    go_enter Tryz.func28, Tryz.ntmps28
    go_wp2
    refine bodyPost_ret (by simp [results, Tryz.results28, go_sem]; rfl) rfl ?_
    exact ⟨_, rfl, World.ownsRow_nil .., Below.refl _ _⟩
  rw [if_neg hlong]
  have g : decide ((65536 : Int) < (s.size : Int)) = false := by rw [decide_eq_false_iff_not]; omega
  have hs : s.size ≤ 65536 := by omega
  have hp0 : PA s 0 = skM false (bytes s) := by unfold PA; rw [List.drop_zero, Nat.zero_add]
  rw [← hp0]
  obtain ⟨R, hR⟩ : ∃ R, scF s (s.size + 1) (PA s 0) = R := ⟨_, rfl⟩
  rw [hR]
  obtain ⟨G, hG⟩ : ∃ G, G = (if R.2.2 = 0 then R else ([], R.2)) := ⟨_, rfl⟩
  rw [← hG]
  have KG := Lib.hid hG; have HR := Lib.hid hR; have HS := Lib.hid hs; have HNL := Lib.hid hlong
  clear hG hR hs hp0 hlong
  go_enter Tryz.func28, Tryz.ntmps28
  go_wp2_with fail
  go_loopw [5, 6] (fun v iv wr => ∃ (f a n : Nat) (acc : List Tk), acc.length = n ∧ n ≤ a ∧ a ≤ s.size ∧ iv = .int .i64 (a : Int) ∧ s.size < a + f ∧ R = (acc ++ (scF s f (PA s a)).1, (scF s f (PA s a)).2) ∧ wr.ownsRow w.heap.size 47 3 v n (tkCells acc) ∧ Below w.heap.size w wr) (fun _ iv _ => s.size - (intOf iv).toNat)
  case atStart => exact ⟨s.size + 1, 0, 0, [], rfl, Nat.zero_le _, Nat.zero_le _, rfl, by omega, HR.out.symm, World.ownsRow_nil .., Below.refl _ _⟩
  case round =>
    obtain ⟨f, a, n, acc, hn, hna, ha, rfl, hf, hRR, ho, hB⟩ := hrel
    have hS := HS.out
    obtain ⟨f, rfl⟩ : ∃ g, f = g + 1 := ⟨f - 1, by omega⟩
    by_cases hlt : a < s.size
    · have g0 : (0 : Int) ≤ (a : Int) := by omega
      have g1 : (a : Int) < (s.size : Int) := by omega
      have g2 : (a : Int) ≤ (s.size : Int) := by omega
      have hDs := rest_size (s := s) (a := a)
      have hD0 : 0 < (s.extract a s.size).size := by omega
      have hDi : (0 : Int) < ((s.extract a s.size).size : Int) := by omega
      have hb := byteAt_get (s.extract a s.size) 0 hD0
      rw [rest_byte hlt] at hb
      have hrund : ∀ W : World, (Instr.slice 9 (.string s) (some (.int .i64 (a : Int))) none none).run Tryz.prog W = .ok (.string (s.extract a s.size)) W := fun W => by
        simp [Instr.slice, run_underlying Tryz.underlying9, Instr.sliceBounds, run_sliceBound, sliced, g0, g2]
      have hrunk : ∀ k : Nat, a + k ≤ s.size → ∀ W : World, (Instr.slice 9 (.string (s.extract a s.size)) none (some (.int .i64 (k : Int))) none).run Tryz.prog W = .ok (.string (s.extract a (a + k))) W := fun k hk W => by
        rw [← rest_take hk]
        exact run_str_h W 9 _ Tryz.underlying9 k (by rw [rest_size]; omega)
      have CB := blank_any (byteAt s a) (byteAt_lt s a)
      have CDg := digit_any (byteAt s a) (byteAt_lt s a)
      have CC := comment_any (s.extract a s.size) (by omega)
      rw [rest_comment hlt] at CC
      have CW := refWord_any (s.extract a s.size) (by omega)
      have CS := refSign_any (s.extract a s.size) (by omega)
      rw [rest_bytes] at CW CS
      by_cases h1 : cls (byteAt s a) = 1
      · have hpa := pa_blank hlt h1
        rw [decide_eq_true h1] at CB
        have ea : wrap64 ((a : Int) + 1) = (a : Int) + 1 := by unfold wrap64; omega
        generalize s.extract a s.size = D at *
        generalize byteAt s a = b at *
        have KB := Lib.hid CB; have HO := Lib.hid ho; have HB := Lib.hid hB; have HN := Lib.hid hn
        have HP : Hid (R = (acc ++ (scF s (f + 1) (PA s (a + 1))).1, (scF s (f + 1) (PA s (a + 1))).2)) := Lib.hid (by rw [hpa]; exact hRR)
        have HQ : Hid (n ≤ a ∧ a < s.size ∧ s.size < a + (f + 1)) := Lib.hid ⟨hna, hlt, hf⟩
        clear CB CDg CC CW CS ho hB hn hRR h1 hpa hna hf ha hS
        go_wp2_with (go_at_call 48; refine (KB.out _).mono ?_; rintro e w3 ⟨rfl, h⟩; subst h; refine Hid.out ?_)
        refine Lib.hid ?_
        go_wp2
        go_roundw
        case rel => exact ⟨f + 1, a + 1, n, acc, HN.out, by have := HQ.out; omega, by have := HQ.out; omega, congrArg (Value.int .i64) (ea.trans (Int.natCast_add a 1).symm), by have := HQ.out; omega, HP.out, HO.out, HB.out⟩
        case measure => have := HQ.out; rw [ea]; show s.size - ((a : Int) + 1).toNat < s.size - ((a : Int)).toNat; omega
      rw [decide_eq_false h1] at CB
      by_cases h2 : cls (byteAt s a) = 2
      · obtain ⟨hpa, hu0, hua⟩ := pa_hash hlt h2
        rw [if_pos h2] at CC
        generalize (upTo 10 ((bytes s).drop a)).length = u at *
        generalize s.extract a s.size = D at *
        generalize byteAt s a = b at *
        have gu : decide ((0 : Int) < (u : Int)) = true := by rw [decide_eq_true_iff]; omega
        have gu2 : decide (0 < u) = true := by rw [decide_eq_true_iff]; omega
        have ea : wrap64 ((a : Int) + (u : Int)) = (a : Int) + (u : Int) := by unfold wrap64; omega
        have KB := Lib.hid CB; have KC := Lib.hid CC; have HO := Lib.hid ho; have HB := Lib.hid hB; have HN := Lib.hid hn
        have HP : Hid (R = (acc ++ (scF s (f + 1) (PA s (a + u))).1, (scF s (f + 1) (PA s (a + u))).2)) := Lib.hid (by rw [hpa]; exact hRR)
        have HQ : Hid (n ≤ a ∧ a + u ≤ s.size ∧ s.size < a + (f + 1) ∧ 0 < u) := Lib.hid ⟨hna, hua, hf, hu0⟩
        clear CB CDg CC CW CS ho hB hn hRR h1 h2 hpa hna hf ha hS hu0 hua
        go_wp2_with (go_at_call 48; refine (KB.out _).mono ?_; rintro e w3 ⟨rfl, h⟩; subst h; refine Hid.out ?_)
        refine Lib.hid ?_
        go_wp2_with (go_at_call 49; refine (KC.out _).mono ?_; rintro e w3 ⟨rfl, h⟩; subst h; refine Hid.out ?_)
        refine Lib.hid ?_
        go_wp2_with (go_at_call 49; refine (KC.out _).mono ?_; rintro e w3 ⟨rfl, h⟩; subst h; refine Hid.out ?_)
        refine Lib.hid ?_
        go_wp2
        go_roundw
        case rel => exact ⟨f + 1, a + u, n, acc, HN.out, by have := HQ.out; omega, by have := HQ.out; omega, congrArg (Value.int .i64) (by first | exact (Int.natCast_add a u).symm | exact ea.trans (Int.natCast_add a u).symm), by have := HQ.out; omega, HP.out, HO.out, HB.out⟩
        case measure => have := HQ.out; first | (show s.size - ((a : Int) + (u : Int)).toNat < s.size - ((a : Int)).toNat; omega) | (rw [ea]; show s.size - ((a : Int) + (u : Int)).toNat < s.size - ((a : Int)).toNat; omega)
      rw [if_neg h2] at CC
      rw [pa_stop hlt h1 h2] at hRR
      by_cases hc : cls (byteAt s a) = 3 ∨ cls (byteAt s a) = 4
      · obtain ⟨hm0, ham, hE, hT⟩ := tok_word hlt hc
        have hXs := extract_size s ham
        have hX := hrunk _ ham
        have CX := refword_any (s.extract a (a + wl ((bytes s).drop a))) (by omega) (by omega)
        have hbad := fun q => scF_bad (f := f) hlt (q : (tokX s a).2 ≠ 0)
        have hok := fun q => scF_ok (f := f) hlt (q : (tokX s a).2 = 0)
        rw [nx_pa, hT] at hok
        have hok2 : (tokX s a).2 = 0 → scF s (f + 1) a = (⟨if cls (byteAt s a) = 4 then 1 else 0, s.extract a (a + wl ((bytes s).drop a)), (a : Int)⟩ :: (scF s f (PA s (a + wl ((bytes s).drop a)))).1, (scF s f (PA s (a + wl ((bytes s).drop a)))).2) := fun q => by
          have := hok q
          rw [show (⟨if cls (byteAt s a) = 4 then 1 else 0, s.extract a (a + wl ((bytes s).drop a)), (a : Int)⟩ : Tk).t.size = wl ((bytes s).drop a) from hXs] at this
          exact this
        rw [hE] at hbad hok2
        have hka : (if cls (byteAt s a) = 4 then (1 : Int) else 0) = if decide (cls (byteAt s a) = 4) = true then 1 else 0 := by
          by_cases q : cls (byteAt s a) = 4
          · rw [if_pos q, if_pos (by simpa using q)]
          · rw [if_neg q, if_neg (by simpa using q)]
        rw [hka] at hok2
        clear hok hE hT hka hc
        generalize wl ((bytes s).drop a) = m at *
        generalize s.extract a (a + m) = X at *
        generalize wdE X = ne at *
        generalize s.extract a s.size = D at *
        generalize decide (cls (byteAt s a) = 4) = v at *
        generalize byteAt s a = b at *
        have gm : decide ((0 : Int) < (m : Int)) = true := by rw [decide_eq_true_iff]; omega
        have gm2 : decide (0 < m) = true := by rw [decide_eq_true_iff]; omega
        have ea : wrap64 ((a : Int) + (m : Int)) = (a : Int) + (m : Int) := by unfold wrap64; omega
        have KB := Lib.hid CB; have KC := Lib.hid CC; have KW := Lib.hid CW; have KX := Lib.hid CX; have KD := Lib.hid CDg
        have HO := Lib.hid ho; have HB := Lib.hid hB; have HN := Lib.hid hn
        have HQ : Hid (n ≤ a ∧ a + m ≤ s.size ∧ s.size < a + (f + 1) ∧ 0 < m) := Lib.hid ⟨hna, ham, hf, hm0⟩
        clear CB CC CW CX CDg CS ho hB hn h1 h2 hna hf ha hS hm0 ham hrunk hXs hlt
        by_cases he : ne = 0
        · subst he
          have hst : R = ((acc ++ [⟨if v = true then 1 else 0, X, (a : Int)⟩]) ++ (scF s f (PA s (a + m))).1, (scF s f (PA s (a + m))).2) := by
            rw [hRR, hok2 rfl]; simp
          have hwl : (acc ++ [(⟨if v = true then 1 else 0, X, (a : Int)⟩ : Tk)]).length = n + 1 := by simp [HN.out]
          cases v
          · have HST : Hid (R = ((acc ++ [⟨0, X, (a : Int)⟩]) ++ (scF s f (PA s (a + m))).1, (scF s f (PA s (a + m))).2)) := Lib.hid hst
            have HWL : Hid ((acc ++ [(⟨0, X, (a : Int)⟩ : Tk)]).length = n + 1) := Lib.hid hwl
            clear hst hwl hRR hok2 hbad
            go_wp2_with (go_at_call 48; refine (KB.out _).mono ?_; rintro e w3 ⟨rfl, h⟩; subst h; refine Hid.out ?_)
            refine Lib.hid ?_
            go_wp2_with (go_at_call 49; refine (KC.out _).mono ?_; rintro e w3 ⟨rfl, h⟩; subst h; refine Hid.out ?_)
            refine Lib.hid ?_
            go_wp2_with (go_at_call 50; refine (KW.out _).mono ?_; rintro e w3 ⟨rfl, h⟩; subst h; refine Hid.out ?_)
            refine Lib.hid ?_
            go_wp2_with (go_at_call 51; refine (KX.out _).mono ?_; rintro e w3 ⟨rfl, h⟩; subst h; refine Hid.out ?_)
            refine Lib.hid ?_
            go_wp2_with (go_at_call 52; refine (KD.out _).mono ?_; rintro e w3 ⟨rfl, h⟩; subst h; refine Hid.out ?_)
            refine Lib.hid ?_
            have A1 := (Below.refl w3.heap.size w3).alloc (Nat.le_refl _) (Obj.cells #[.int .i64 0, .string X, .int .i64 (a : Int)] 47)
            have O5 := owns_below3 HO.out A1
            have B5 := Below.chain HB.out A1
            have hv4 : ∀ b, Value.ownBlock _ = some b → w.heap.size ≤ b ∧ b < w3.heap.size := fun b e => owns_lt3 HO.out e
            have hz5 := B5.size
            have HO5 := Lib.hid O5; have HB5 := Lib.hid B5; have HV4 := Lib.hid hv4; have HZ5 := Lib.hid hz5
            have hnle : n ≤ 1200000 := by have := HQ.out; have := HS.out; omega
            have HNLE := Lib.hid hnle
            clear A1 O5 B5 hv4 hz5 HO hnle
            go_wp2_with (first | (at_builtin; refine wpList_append_tok rfl (.tmp 49) (.tmp 56) rfl w.heap.size _ n acc HN.out (by simp [Act.eval, Act.put]) HO5.out HNLE.out HZ5.out w3.heap.size ⟨0, X, (a : Int)⟩ (by simp [Act.eval, Act.put]) (by go_cell) (by go_cell) (by go_cell) ?_; intro g6 cap6 w6 ho6 hg6 hgg6; refine Hid.out ?_) | fail)
            have hb6 := HB5.out.grown hg6 HZ5.out (fun b hb => (HV4.out b hb).1)
            have HO6 := Lib.hid ho6; have HB6 := Lib.hid hb6
            clear ho6 hg6 hgg6 hb6
            refine Lib.hid ?_
            go_wp2
            go_roundw
            case rel => exact ⟨f, a + m, n + 1, _, HWL.out, by have := HQ.out; omega, by have := HQ.out; omega, congrArg (Value.int .i64) (by first | exact (Int.natCast_add a m).symm | exact ea.trans (Int.natCast_add a m).symm), by have := HQ.out; omega, HST.out, HO6.out, HB6.out⟩
            case measure => have := HQ.out; first | (show s.size - ((a : Int) + (m : Int)).toNat < s.size - ((a : Int)).toNat; omega) | (rw [ea]; show s.size - ((a : Int) + (m : Int)).toNat < s.size - ((a : Int)).toNat; omega)
          · have HST : Hid (R = ((acc ++ [⟨1, X, (a : Int)⟩]) ++ (scF s f (PA s (a + m))).1, (scF s f (PA s (a + m))).2)) := Lib.hid hst
            have HWL : Hid ((acc ++ [(⟨1, X, (a : Int)⟩ : Tk)]).length = n + 1) := Lib.hid hwl
            clear hst hwl hRR hok2 hbad
            go_wp2_with (go_at_call 48; refine (KB.out _).mono ?_; rintro e w3 ⟨rfl, h⟩; subst h; refine Hid.out ?_)
            refine Lib.hid ?_
            go_wp2_with (go_at_call 49; refine (KC.out _).mono ?_; rintro e w3 ⟨rfl, h⟩; subst h; refine Hid.out ?_)
            refine Lib.hid ?_
            go_wp2_with (go_at_call 50; refine (KW.out _).mono ?_; rintro e w3 ⟨rfl, h⟩; subst h; refine Hid.out ?_)
            refine Lib.hid ?_
            go_wp2_with (go_at_call 51; refine (KX.out _).mono ?_; rintro e w3 ⟨rfl, h⟩; subst h; refine Hid.out ?_)
            refine Lib.hid ?_
            go_wp2_with (go_at_call 52; refine (KD.out _).mono ?_; rintro e w3 ⟨rfl, h⟩; subst h; refine Hid.out ?_)
            refine Lib.hid ?_
            have A1 := (Below.refl w3.heap.size w3).alloc (Nat.le_refl _) (Obj.cells #[.int .i64 1, .string X, .int .i64 (a : Int)] 47)
            have O5 := owns_below3 HO.out A1
            have B5 := Below.chain HB.out A1
            have hv4 : ∀ b, Value.ownBlock _ = some b → w.heap.size ≤ b ∧ b < w3.heap.size := fun b e => owns_lt3 HO.out e
            have hz5 := B5.size
            have HO5 := Lib.hid O5; have HB5 := Lib.hid B5; have HV4 := Lib.hid hv4; have HZ5 := Lib.hid hz5
            have hnle : n ≤ 1200000 := by have := HQ.out; have := HS.out; omega
            have HNLE := Lib.hid hnle
            clear A1 O5 B5 hv4 hz5 HO hnle
            go_wp2_with (first | (at_builtin; refine wpList_append_tok rfl (.tmp 49) (.tmp 56) rfl w.heap.size _ n acc HN.out (by simp [Act.eval, Act.put]) HO5.out HNLE.out HZ5.out w3.heap.size ⟨1, X, (a : Int)⟩ (by simp [Act.eval, Act.put]) (by go_cell) (by go_cell) (by go_cell) ?_; intro g6 cap6 w6 ho6 hg6 hgg6; refine Hid.out ?_) | fail)
            have hb6 := HB5.out.grown hg6 HZ5.out (fun b hb => (HV4.out b hb).1)
            have HO6 := Lib.hid ho6; have HB6 := Lib.hid hb6
            clear ho6 hg6 hgg6 hb6
            refine Lib.hid ?_
            go_wp2
            go_roundw
            case rel => exact ⟨f, a + m, n + 1, _, HWL.out, by have := HQ.out; omega, by have := HQ.out; omega, congrArg (Value.int .i64) (by first | exact (Int.natCast_add a m).symm | exact ea.trans (Int.natCast_add a m).symm), by have := HQ.out; omega, HST.out, HO6.out, HB6.out⟩
            case measure => have := HQ.out; first | (show s.size - ((a : Int) + (m : Int)).toNat < s.size - ((a : Int)).toNat; omega) | (rw [ea]; show s.size - ((a : Int) + (m : Int)).toNat < s.size - ((a : Int)).toNat; omega)
        · rw [hbad he] at hRR
          have hG2 : G = ([], a, ne) := by rw [KG.out, hRR]; exact if_neg he
          have tne : ((ne : Int) == 0) = false := by rw [beq_eq_false_iff_ne]; omega
          have tne2 : ((ne : Int) != 0) = true := by rw [bne_iff_ne]; omega
          have HG2 := Lib.hid hG2; have HE := Lib.hid he
          clear hG2 he hRR hok2 hbad
          go_wp2_with (go_at_call 48; refine (KB.out _).mono ?_; rintro e w3 ⟨rfl, h⟩; subst h; refine Hid.out ?_)
          refine Lib.hid ?_
          go_wp2_with (go_at_call 49; refine (KC.out _).mono ?_; rintro e w3 ⟨rfl, h⟩; subst h; refine Hid.out ?_)
          refine Lib.hid ?_
          go_wp2_with (go_at_call 50; refine (KW.out _).mono ?_; rintro e w3 ⟨rfl, h⟩; subst h; refine Hid.out ?_)
          refine Lib.hid ?_
          go_wp2_with (go_at_call 51; refine (KX.out _).mono ?_; rintro e w3 ⟨rfl, h⟩; subst h; refine Hid.out ?_)
          refine Lib.hid ?_
          go_wp2
          refine bodyPost_ret (by simp [results, Tryz.results28, go_sem]; rfl) rfl ?_
          rw [HG2.out]
          exact ⟨_, rfl, World.ownsRow_nil .., HB.out⟩
      have h3 : cls (byteAt s a) ≠ 3 := fun q => hc (.inl q)
      have h4 : cls (byteAt s a) ≠ 4 := fun q => hc (.inr q)
      obtain ⟨ham, hE, hT⟩ := tok_sign hlt h3 h4
      rw [wl_none hlt h3 h4] at CW
      have hXs := extract_size s ham
      have hX := hrunk _ ham
      have hbad := fun q => scF_bad (f := f) hlt (q : (tokX s a).2 ≠ 0)
      have hok := fun q => scF_ok (f := f) hlt (q : (tokX s a).2 = 0)
      rw [nx_pa, hT] at hok
      have hok2 : (tokX s a).2 = 0 → scF s (f + 1) a = (⟨2, s.extract a (a + sl ((bytes s).drop a)), (a : Int)⟩ :: (scF s f (PA s (a + sl ((bytes s).drop a)))).1, (scF s f (PA s (a + sl ((bytes s).drop a)))).2) := fun q => by
        have := hok q
        rw [show (⟨2, s.extract a (a + sl ((bytes s).drop a)), (a : Int)⟩ : Tk).t.size = sl ((bytes s).drop a) from hXs] at this
        exact this
      rw [hE] at hbad hok2
      clear hok hE hT hc h3 h4
      generalize sl ((bytes s).drop a) = m at *
      generalize s.extract a (a + m) = X at *
      generalize s.extract a s.size = D at *
      generalize byteAt s a = b at *
      have ea : wrap64 ((a : Int) + (m : Int)) = (a : Int) + (m : Int) := by unfold wrap64; omega
      have KB := Lib.hid CB; have KC := Lib.hid CC; have KW := Lib.hid CW; have KS := Lib.hid CS
      have HO := Lib.hid ho; have HB := Lib.hid hB; have HN := Lib.hid hn
      by_cases hm0 : m = 0
      · subst hm0
        have hbad := hbad (by simp)
        rw [if_pos rfl] at hbad
        rw [hbad] at hRR
        have hG2 : G = ([], a, 4) := by rw [KG.out, hRR]; exact if_neg (by simp)
        have HG2 := Lib.hid hG2
        clear CB CC CW CDg CS ho hB hn h1 h2 hna hf ha hS ham hrunk hXs hlt hok2 hbad hRR hG2
        go_wp2_with (go_at_call 48; refine (KB.out _).mono ?_; rintro e w3 ⟨rfl, h⟩; subst h; refine Hid.out ?_)
        refine Lib.hid ?_
        go_wp2_with (go_at_call 49; refine (KC.out _).mono ?_; rintro e w3 ⟨rfl, h⟩; subst h; refine Hid.out ?_)
        refine Lib.hid ?_
        go_wp2_with (go_at_call 50; refine (KW.out _).mono ?_; rintro e w3 ⟨rfl, h⟩; subst h; refine Hid.out ?_)
        refine Lib.hid ?_
        go_wp2_with (go_at_call 53; refine (KS.out _).mono ?_; rintro e w3 ⟨rfl, hb3⟩; refine Hid.out ?_)
        have HB3 := Lib.hid (Below.chain HB.out hb3)
        clear hb3
        refine Lib.hid ?_
        go_wp2
        refine bodyPost_ret (by simp [results, Tryz.results28, go_sem]; rfl) rfl ?_
        rw [HG2.out]
        exact ⟨_, rfl, World.ownsRow_nil .., HB3.out⟩
      · have hst : R = ((acc ++ [⟨2, X, (a : Int)⟩]) ++ (scF s f (PA s (a + m))).1, (scF s f (PA s (a + m))).2) := by
          rw [hRR, hok2 (if_neg hm0)]; simp
        have hwl : (acc ++ [(⟨2, X, (a : Int)⟩ : Tk)]).length = n + 1 := by simp [HN.out]
        have gm : decide ((0 : Int) < (m : Int)) = true := by rw [decide_eq_true_iff]; omega
        have gm2 : decide (0 < m) = true := by rw [decide_eq_true_iff]; omega
        have HQ : Hid (n ≤ a ∧ a + m ≤ s.size ∧ s.size < a + (f + 1) ∧ 0 < m) := Lib.hid ⟨hna, ham, hf, by omega⟩
        have HST := Lib.hid hst; have HWL := Lib.hid hwl; have HM0 := Lib.hid hm0
        clear CB CC CW CDg CS ho hB hn h1 h2 hna hf ha hS ham hrunk hXs hlt hok2 hbad hRR hst hwl hm0
        go_wp2_with (go_at_call 48; refine (KB.out _).mono ?_; rintro e w3 ⟨rfl, h⟩; subst h; refine Hid.out ?_)
        refine Lib.hid ?_
        go_wp2_with (go_at_call 49; refine (KC.out _).mono ?_; rintro e w3 ⟨rfl, h⟩; subst h; refine Hid.out ?_)
        refine Lib.hid ?_
        go_wp2_with (go_at_call 50; refine (KW.out _).mono ?_; rintro e w3 ⟨rfl, h⟩; subst h; refine Hid.out ?_)
        refine Lib.hid ?_
        go_wp2_with (go_at_call 53; refine (KS.out _).mono ?_; rintro e w4 ⟨rfl, hb4⟩; refine Hid.out ?_)
        have HO := Lib.hid (owns_below3 HO.out hb4)
        have HB := Lib.hid (Below.chain HB.out hb4)
        clear hb4
        refine Lib.hid ?_
        have A1 := (Below.refl w4.heap.size w4).alloc (Nat.le_refl _) (Obj.cells #[.int .i64 2, .string X, .int .i64 (a : Int)] 47)
        have O5 := owns_below3 HO.out A1
        have B5 := Below.chain HB.out A1
        have hv4 : ∀ b, Value.ownBlock _ = some b → w.heap.size ≤ b ∧ b < w4.heap.size := fun b e => owns_lt3 HO.out e
        have hz5 := B5.size
        have HO5 := Lib.hid O5; have HB5 := Lib.hid B5; have HV4 := Lib.hid hv4; have HZ5 := Lib.hid hz5
        have hnle : n ≤ 1200000 := by have := HQ.out; have := HS.out; omega
        have HNLE := Lib.hid hnle
        clear A1 O5 B5 hv4 hz5 HO hnle
        go_wp2_with (first | (at_builtin; refine wpList_append_tok rfl (.tmp 65) (.tmp 71) rfl w.heap.size _ n acc HN.out (by simp [Act.eval, Act.put]) HO5.out HNLE.out HZ5.out w4.heap.size ⟨2, X, (a : Int)⟩ (by simp [Act.eval, Act.put]) (by go_cell) (by go_cell) (by go_cell) ?_; intro g6 cap6 w6 ho6 hg6 hgg6; refine Hid.out ?_) | fail)
        have hb6 := HB5.out.grown hg6 HZ5.out (fun b hb => (HV4.out b hb).1)
        have HO6 := Lib.hid ho6; have HB6 := Lib.hid hb6
        clear ho6 hg6 hgg6 hb6
        refine Lib.hid ?_
        go_wp2
        go_roundw
        case rel => exact ⟨f, a + m, n + 1, _, HWL.out, by have := HQ.out; omega, by have := HQ.out; omega, congrArg (Value.int .i64) (by first | exact (Int.natCast_add a m).symm | exact ea.trans (Int.natCast_add a m).symm), by have := HQ.out; omega, HST.out, HO6.out, HB6.out⟩
        case measure => have := HQ.out; first | (show s.size - ((a : Int) + (m : Int)).toNat < s.size - ((a : Int)).toNat; omega) | (rw [ea]; show s.size - ((a : Int) + (m : Int)).toNat < s.size - ((a : Int)).toNat; omega)
    · obtain rfl : a = s.size := by omega
      rw [pa_end (Nat.le_refl _), scF_end (Nat.le_refl _)] at hRR
      have hG2 : G = (acc ++ [(⟨3, ⟨#[]⟩, (s.size : Int)⟩ : Tk)], 0, 0) := by rw [KG.out, hRR]; exact if_pos rfl
      have HG2 := Lib.hid hG2; clear hG2
      have hge : ¬ ((s.size : Nat) : Int) < (s.size : Int) := by omega
      have A1 := (Below.refl wr.heap.size wr).alloc (Nat.le_refl _) (Obj.cells #[.int .i64 3, .string ⟨#[]⟩, .int .i64 (s.size : Int)] 47)
      have O5 := owns_below3 ho A1
      have B5 := Below.chain hB A1
      have hv4 : ∀ b, Value.ownBlock _ = some b → w.heap.size ≤ b ∧ b < wr.heap.size := fun b e => owns_lt3 ho e
      have hnle : n ≤ 1200000 := by omega
      have hz5 := B5.size
      have HO5 := Lib.hid O5; have HB5 := Lib.hid B5; have HV4 := Lib.hid hv4; have HNLE := Lib.hid hnle; have HZ5 := Lib.hid hz5; have HN := Lib.hid hn
      have hfin : (acc ++ [(⟨3, ⟨#[]⟩, (s.size : Int)⟩ : Tk)]).length = n + 1 := by simp [hn]
      have HF := Lib.hid hfin
      clear A1 O5 B5 hv4 hnle hz5 ho hB hn hna ha hf hS hfin hlt HR hRR
      go_wp2_with (first | (at_builtin; refine wpList_append_tok rfl (.tmp 77) (.tmp 81) rfl w.heap.size _ n acc HN.out (by simp [Act.eval, Act.put]) HO5.out HNLE.out HZ5.out wr.heap.size ⟨3, ⟨#[]⟩, (s.size : Int)⟩ (by simp [Act.eval, Act.put]) (by go_cell) (by go_cell) (by go_cell) ?_; intro g6 cap6 w6 ho6 hg6 hgg6; refine Hid.out ?_) | fail)
      have hb6 := HB5.out.grown hg6 HZ5.out (fun b hb => (HV4.out b hb).1)
      have HO6 := Lib.hid ho6; have HB6 := Lib.hid hb6
      clear ho6 hg6 hgg6 hb6
      refine Lib.hid ?_
      go_wp2
      refine bodyPost_ret (by simp [results, Tryz.results28, go_sem]; rfl) rfl ?_
      rw [HG2.out]
      refine ⟨_, rfl, ?_, HB6.out⟩
      show w6.ownsRow _ _ _ _ (acc ++ [(⟨3, ⟨#[]⟩, (s.size : Int)⟩ : Tk)]).length _
      rw [HF.out]
      exact HO6.out
end Go.Proofs.YtdibcllakkjegaaGreatDoor

/-
  Mathematics of tokens: texts, tokens behind each other, comments, lines, joined texts.
-/
set_option linter.unusedVariables false
namespace Go.Proofs.YtdibcllakkjegaaGreatDoor
open Go Go.Proofs Go.RowKit

theorem wl_zero_app {y : List UInt8} (hy : y ≠ []) (r : List UInt8) : wl (y ++ r) = 0 ↔ wl y = 0 := by
  cases y with
  | nil => exact absurd rfl hy
  | cons c y =>
    rw [List.cons_append, wl_cons, wl_cons]
    split <;> simp
theorem wl_word_app {x y : List UInt8} (hy : y ≠ []) (r : List UInt8) : wl (x ++ (y ++ r)) = x.length ↔ wl (x ++ y) = x.length := by
  rw [wl_eq_len, wl_eq_len, wl_zero_app hy]
theorem sl_two {x y : List UInt8} (hx : x ≠ []) (hy : y ≠ []) (r : List UInt8) : sl (x ++ (y ++ r)) = sl (x ++ y) := by
  obtain ⟨a, x, rfl⟩ := List.exists_cons_of_ne_nil hx
  obtain ⟨b, y, rfl⟩ := List.exists_cons_of_ne_nil hy
  cases x with
  | nil => unfold sl; simp
  | cons c x => unfold sl; simp
theorem tn_app {x y : List UInt8} (hx : x ≠ []) (hy : y ≠ []) (r : List UInt8) : tn (x ++ (y ++ r)) = x.length ↔ tn (x ++ y) = x.length := by
  unfold tn
  have h1 := wl_word_app (x := x) hy r
  rw [sl_two hx hy r]
  have e : ∀ z, hc (x ++ z) = hc x := fun z => hc_app hx z
  by_cases hw : hc x = 3 ∨ hc x = 4
  · rw [sl_word (by rw [e]; exact hw)]
    omega
  · rw [wl_sign (by rw [e]; omega) (by rw [e]; omega), wl_sign (by rw [e]; omega) (by rw [e]; omega)]
theorem skN (b : Bool) : skM b [] = 0 := by cases b <;> rfl
theorem sq_tok {f a k : Nat} {l x z : List UInt8} (hk : skM false l = k) (hm : l.drop k = x ++ z) (hx : x ≠ []) (ht : tn (x ++ z) = x.length) (he : ter x = 0) :
    sq (f + 1) a l = ((tkd x, x, a + k) :: (sq f (a + k + x.length) z).1, (sq f (a + k + x.length) z).2) := by
  have hne : x ++ z ≠ [] := fun q => hx (List.append_eq_nil_iff.1 q).1
  obtain ⟨h1, h2⟩ := ter_app hx ht
  rw [sq, hk, hm, if_neg hne, h1, if_pos he, ht, h2, List.take_left' rfl, List.drop_left' rfl]
end Go.Proofs.YtdibcllakkjegaaGreatDoor

/-
  parser: what is read of a list whose end is not reached: the theorem.
-/
set_option linter.unusedSimpArgs false
set_option linter.unusedVariables false
namespace Go.Proofs.YtdibcllakkjegaaGreatDoor
open Go Go.Proofs Go.RowKit

theorem Prf.right9 {f d : Nat} (ih : ∀ w d, Prf f (mRead w d)) : Prf f (mRight d) := by
  unfold mRight
  refine Prf.bind Prf.is (fun _ => Prf.ite (Prf.bind Prf.take (fun _ => Prf.ret) (fun _ => Suf.ret)) (Prf.bind Prf.named (fun _ => Prf.next (fun _ => Prf.ite (ih _ _) (Prf.ite (ih _ _) (ih _ _))) (fun _ => Less.ite Less.load (Less.ite Less.call (Less.lvl _ _))) (fun _ => Suf.ite (suf_read _ _ _) (Suf.ite (suf_read _ _ _) (suf_read _ _ _)))) (fun _ => ?_))) (fun _ => ?_)
  · exact Suf.bind Suf.next (fun _ => Suf.ite (suf_read _ _ _) (Suf.ite (suf_read _ _ _) (suf_read _ _ _)))
  · exact Suf.ite (Suf.bind Suf.take (fun _ => Suf.ret)) (Suf.bind Suf.named (fun _ => Suf.bind Suf.next (fun _ => Suf.ite (suf_read _ _ _) (Suf.ite (suf_read _ _ _) (suf_read _ _ _)))))
theorem PfS.stmt9 {f d : Nat} (ih : ∀ w d, PfS f (mRead w d)) : PfS f (mStmt d) := by
  have K1 : Keep f mPeek := by intro l y l' e; cases e; rfl
  have M := mono_read f
  unfold mStmt
  refine PfS.bind PfS.named (fun _ => PfS.ite (PfS.next (fun _ => ?_) (fun _ => ?_)) ?_)
  · repeat' (first | with_reducible exact PfS.take | with_reducible exact PfS.deep | with_reducible exact PfS.op | with_reducible exact PfS.peek | with_reducible exact PfS.is | with_reducible exact PfS.named | with_reducible exact PfS.name | with_reducible exact PfS.need | with_reducible exact PfS.enter | with_reducible exact PfS.num | with_reducible exact PfS.ret | with_reducible exact ih _ _ | with_reducible exact PfS.before (ih _ _) | (with_reducible refine PfS.bind ?_ (fun _ => ?_)) | (with_reducible refine PfS.ite ?_ ?_) | (unfold mStore) | (unfold mCallSt) | (unfold mAssign) | (unfold mChoice) | (unfold mLoop) | (unfold mClaim) | (unfold mVars) | (unfold mArray) | (unfold mParams) | (unfold mResults) | (unfold mWhen))
  · unfold mStore mCallSt mAssign
    refine Less.ite ?_ (Less.ite ?_ ?_)
    · exact Less.keep K1 fun _ => Less.bind Less.load fun _ => Mono.bind Mono.need fun _ => Mono.bind (M _ _) fun _ => Mono.bind Mono.need fun _ => Mono.ret
    · exact Less.keep K1 fun _ => Less.bind Less.call fun _ => Mono.bind Mono.need fun _ => Mono.ret
    · exact Less.keep K1 fun _ => Less.bind Less.places fun _ => Mono.bind Mono.need fun _ => Mono.bind (M _ _) fun _ => Mono.bind Mono.need fun _ => Mono.ret
  · repeat' (first | with_reducible exact PfS.take | with_reducible exact PfS.deep | with_reducible exact PfS.op | with_reducible exact PfS.peek | with_reducible exact PfS.is | with_reducible exact PfS.named | with_reducible exact PfS.name | with_reducible exact PfS.need | with_reducible exact PfS.enter | with_reducible exact PfS.num | with_reducible exact PfS.ret | with_reducible exact ih _ _ | with_reducible exact PfS.before (ih _ _) | (with_reducible refine PfS.bind ?_ (fun _ => ?_)) | (with_reducible refine PfS.ite ?_ ?_) | (unfold mStore) | (unfold mCallSt) | (unfold mAssign) | (unfold mChoice) | (unfold mLoop) | (unfold mClaim) | (unfold mVars) | (unfold mArray) | (unfold mParams) | (unfold mResults) | (unfold mWhen))
set_option maxHeartbeats 1000000 in
/-- What is read of a list whose end is not reached does not depend on that end. -/
theorem prf_read (f : Nat) : ∀ (w : Want) (d : Nat), Prf f (mRead w d) := by
  induction f with
  | zero => intro w d V V2 S S' y _ _ _ e; unfold mRead at e; rw [pRead] at e; cases e
  | succ f ih0 =>
    have ih : ∀ w d, PfS f (mRead w d) := fun w d => ⟨ih0 w d, suf_read f w d⟩
    intro w d
    have up : ∀ {m : Rd (List Syn)}, Prf f m → (∀ l, pRead (f + 1) w d l = m f l) → Prf (f + 1) (mRead w d) := fun {m} h e V V2 S S' y h1 h2 h3 g => (e _).trans (h V V2 S S' y h1 h2 h3 ((e _).symm.trans g))
    cases w with
    | lvl i =>
      refine up ?_ (fun l => eqI_lvl (a := 0) (x := []) (w := .bare) f l)
      unfold mLvl
      exact (show PfS f _ by repeat' (first | with_reducible exact PfS.take | with_reducible exact PfS.deep | with_reducible exact PfS.op | with_reducible exact PfS.peek | with_reducible exact PfS.is | with_reducible exact PfS.named | with_reducible exact PfS.name | with_reducible exact PfS.need | with_reducible exact PfS.enter | with_reducible exact PfS.num | with_reducible exact PfS.ret | with_reducible exact ih _ _ | with_reducible exact PfS.before (ih _ _) | (with_reducible refine PfS.bind ?_ (fun _ => ?_)) | (with_reducible refine PfS.ite ?_ ?_) | (unfold mStore) | (unfold mCallSt) | (unfold mAssign) | (unfold mChoice) | (unfold mLoop) | (unfold mClaim) | (unfold mVars) | (unfold mArray) | (unfold mParams) | (unfold mResults) | (unfold mWhen))).1
    | rep i a x =>
      refine up ?_ (fun l => eqI_rep (w := .bare) f l)
      unfold mRepI
      exact (show PfS f _ by repeat' (first | with_reducible exact PfS.take | with_reducible exact PfS.deep | with_reducible exact PfS.op | with_reducible exact PfS.peek | with_reducible exact PfS.is | with_reducible exact PfS.named | with_reducible exact PfS.name | with_reducible exact PfS.need | with_reducible exact PfS.enter | with_reducible exact PfS.num | with_reducible exact PfS.ret | with_reducible exact ih _ _ | with_reducible exact PfS.before (ih _ _) | (with_reducible refine PfS.bind ?_ (fun _ => ?_)) | (with_reducible refine PfS.ite ?_ ?_) | (unfold mStore) | (unfold mCallSt) | (unfold mAssign) | (unfold mChoice) | (unfold mLoop) | (unfold mClaim) | (unfold mVars) | (unfold mArray) | (unfold mParams) | (unfold mResults) | (unfold mWhen))).1
    | bare =>
      refine up ?_ (fun l => eqI_bare (i := 0) (a := 0) (x := []) (w := .bare) f l)
      unfold mBareI
      exact (show PfS f _ by repeat' (first | with_reducible exact PfS.take | with_reducible exact PfS.deep | with_reducible exact PfS.op | with_reducible exact PfS.peek | with_reducible exact PfS.is | with_reducible exact PfS.named | with_reducible exact PfS.name | with_reducible exact PfS.need | with_reducible exact PfS.enter | with_reducible exact PfS.num | with_reducible exact PfS.ret | with_reducible exact ih _ _ | with_reducible exact PfS.before (ih _ _) | (with_reducible refine PfS.bind ?_ (fun _ => ?_)) | (with_reducible refine PfS.ite ?_ ?_) | (unfold mStore) | (unfold mCallSt) | (unfold mAssign) | (unfold mChoice) | (unfold mLoop) | (unfold mClaim) | (unfold mVars) | (unfold mArray) | (unfold mParams) | (unfold mResults) | (unfold mWhen))).1
    | place =>
      refine up ?_ (fun l => eqI_place (i := 0) (a := 0) (x := []) (w := .bare) f l)
      unfold mPlaceI
      exact (show PfS f _ by repeat' (first | with_reducible exact PfS.take | with_reducible exact PfS.deep | with_reducible exact PfS.op | with_reducible exact PfS.peek | with_reducible exact PfS.is | with_reducible exact PfS.named | with_reducible exact PfS.name | with_reducible exact PfS.need | with_reducible exact PfS.enter | with_reducible exact PfS.num | with_reducible exact PfS.ret | with_reducible exact ih _ _ | with_reducible exact PfS.before (ih _ _) | (with_reducible refine PfS.bind ?_ (fun _ => ?_)) | (with_reducible refine PfS.ite ?_ ?_) | (unfold mStore) | (unfold mCallSt) | (unfold mAssign) | (unfold mChoice) | (unfold mLoop) | (unfold mClaim) | (unfold mVars) | (unfold mArray) | (unfold mParams) | (unfold mResults) | (unfold mWhen))).1
    | param =>
      refine up ?_ (fun l => eqI_param (i := 0) (a := 0) (x := []) (w := .bare) f l)
      unfold mParamI
      exact (show PfS f _ by repeat' (first | with_reducible exact PfS.take | with_reducible exact PfS.deep | with_reducible exact PfS.op | with_reducible exact PfS.peek | with_reducible exact PfS.is | with_reducible exact PfS.named | with_reducible exact PfS.name | with_reducible exact PfS.need | with_reducible exact PfS.enter | with_reducible exact PfS.num | with_reducible exact PfS.ret | with_reducible exact ih _ _ | with_reducible exact PfS.before (ih _ _) | (with_reducible refine PfS.bind ?_ (fun _ => ?_)) | (with_reducible refine PfS.ite ?_ ?_) | (unfold mStore) | (unfold mCallSt) | (unfold mAssign) | (unfold mChoice) | (unfold mLoop) | (unfold mClaim) | (unfold mVars) | (unfold mArray) | (unfold mParams) | (unfold mResults) | (unfold mWhen))).1
    | list w =>
      refine up ?_ (fun l => eqI_list (i := 0) (a := 0) (x := []) f l)
      unfold mListI
      exact (show PfS f _ by repeat' (first | with_reducible exact PfS.take | with_reducible exact PfS.deep | with_reducible exact PfS.op | with_reducible exact PfS.peek | with_reducible exact PfS.is | with_reducible exact PfS.named | with_reducible exact PfS.name | with_reducible exact PfS.need | with_reducible exact PfS.enter | with_reducible exact PfS.num | with_reducible exact PfS.ret | with_reducible exact ih _ _ | with_reducible exact PfS.before (ih _ _) | (with_reducible refine PfS.bind ?_ (fun _ => ?_)) | (with_reducible refine PfS.ite ?_ ?_) | (unfold mStore) | (unfold mCallSt) | (unfold mAssign) | (unfold mChoice) | (unfold mLoop) | (unfold mClaim) | (unfold mVars) | (unfold mArray) | (unfold mParams) | (unfold mResults) | (unfold mWhen))).1
    | load =>
      refine up ?_ (fun l => eq_load f l)
      unfold mLoad
      exact (show PfS f _ by repeat' (first | with_reducible exact PfS.take | with_reducible exact PfS.deep | with_reducible exact PfS.op | with_reducible exact PfS.peek | with_reducible exact PfS.is | with_reducible exact PfS.named | with_reducible exact PfS.name | with_reducible exact PfS.need | with_reducible exact PfS.enter | with_reducible exact PfS.num | with_reducible exact PfS.ret | with_reducible exact ih _ _ | with_reducible exact PfS.before (ih _ _) | (with_reducible refine PfS.bind ?_ (fun _ => ?_)) | (with_reducible refine PfS.ite ?_ ?_) | (unfold mStore) | (unfold mCallSt) | (unfold mAssign) | (unfold mChoice) | (unfold mLoop) | (unfold mClaim) | (unfold mVars) | (unfold mArray) | (unfold mParams) | (unfold mResults) | (unfold mWhen))).1
    | call =>
      refine up ?_ (fun l => eq_call f l)
      unfold mCall
      exact (show PfS f _ by repeat' (first | with_reducible exact PfS.take | with_reducible exact PfS.deep | with_reducible exact PfS.op | with_reducible exact PfS.peek | with_reducible exact PfS.is | with_reducible exact PfS.named | with_reducible exact PfS.name | with_reducible exact PfS.need | with_reducible exact PfS.enter | with_reducible exact PfS.num | with_reducible exact PfS.ret | with_reducible exact ih _ _ | with_reducible exact PfS.before (ih _ _) | (with_reducible refine PfS.bind ?_ (fun _ => ?_)) | (with_reducible refine PfS.ite ?_ ?_) | (unfold mStore) | (unfold mCallSt) | (unfold mAssign) | (unfold mChoice) | (unfold mLoop) | (unfold mClaim) | (unfold mVars) | (unfold mArray) | (unfold mParams) | (unfold mResults) | (unfold mWhen))).1
    | right => exact up (Prf.right9 ih0) (fun l => eq_right f l)
    | block =>
      refine up ?_ (fun l => eq_block f l)
      unfold mBlock
      exact (show PfS f _ by repeat' (first | with_reducible exact PfS.take | with_reducible exact PfS.deep | with_reducible exact PfS.op | with_reducible exact PfS.peek | with_reducible exact PfS.is | with_reducible exact PfS.named | with_reducible exact PfS.name | with_reducible exact PfS.need | with_reducible exact PfS.enter | with_reducible exact PfS.num | with_reducible exact PfS.ret | with_reducible exact ih _ _ | with_reducible exact PfS.before (ih _ _) | (with_reducible refine PfS.bind ?_ (fun _ => ?_)) | (with_reducible refine PfS.ite ?_ ?_) | (unfold mStore) | (unfold mCallSt) | (unfold mAssign) | (unfold mChoice) | (unfold mLoop) | (unfold mClaim) | (unfold mVars) | (unfold mArray) | (unfold mParams) | (unfold mResults) | (unfold mWhen))).1
    | chain a =>
      refine up ?_ (fun l => eq_chain f l)
      unfold mChain
      exact (show PfS f _ by repeat' (first | with_reducible exact PfS.take | with_reducible exact PfS.deep | with_reducible exact PfS.op | with_reducible exact PfS.peek | with_reducible exact PfS.is | with_reducible exact PfS.named | with_reducible exact PfS.name | with_reducible exact PfS.need | with_reducible exact PfS.enter | with_reducible exact PfS.num | with_reducible exact PfS.ret | with_reducible exact ih _ _ | with_reducible exact PfS.before (ih _ _) | (with_reducible refine PfS.bind ?_ (fun _ => ?_)) | (with_reducible refine PfS.ite ?_ ?_) | (unfold mStore) | (unfold mCallSt) | (unfold mAssign) | (unfold mChoice) | (unfold mLoop) | (unfold mClaim) | (unfold mVars) | (unfold mArray) | (unfold mParams) | (unfold mResults) | (unfold mWhen))).1
    | stmts =>
      refine up ?_ (fun l => eq_stmts f l)
      unfold mStmts
      exact (show PfS f _ by repeat' (first | with_reducible exact PfS.take | with_reducible exact PfS.deep | with_reducible exact PfS.op | with_reducible exact PfS.peek | with_reducible exact PfS.is | with_reducible exact PfS.named | with_reducible exact PfS.name | with_reducible exact PfS.need | with_reducible exact PfS.enter | with_reducible exact PfS.num | with_reducible exact PfS.ret | with_reducible exact ih _ _ | with_reducible exact PfS.before (ih _ _) | (with_reducible refine PfS.bind ?_ (fun _ => ?_)) | (with_reducible refine PfS.ite ?_ ?_) | (unfold mStore) | (unfold mCallSt) | (unfold mAssign) | (unfold mChoice) | (unfold mLoop) | (unfold mClaim) | (unfold mVars) | (unfold mArray) | (unfold mParams) | (unfold mResults) | (unfold mWhen))).1
    | stmt => exact up (PfS.stmt9 ih).1 (fun l => eq_stmt f l)
    | decls =>
      refine up ?_ (fun l => eq_decls f l)
      unfold mDecls
      exact (show PfS f _ by repeat' (first | with_reducible exact PfS.take | with_reducible exact PfS.deep | with_reducible exact PfS.op | with_reducible exact PfS.peek | with_reducible exact PfS.is | with_reducible exact PfS.named | with_reducible exact PfS.name | with_reducible exact PfS.need | with_reducible exact PfS.enter | with_reducible exact PfS.num | with_reducible exact PfS.ret | with_reducible exact ih _ _ | with_reducible exact PfS.before (ih _ _) | (with_reducible refine PfS.bind ?_ (fun _ => ?_)) | (with_reducible refine PfS.ite ?_ ?_) | (unfold mStore) | (unfold mCallSt) | (unfold mAssign) | (unfold mChoice) | (unfold mLoop) | (unfold mClaim) | (unfold mVars) | (unfold mArray) | (unfold mParams) | (unfold mResults) | (unfold mWhen))).1
    | body =>
      refine up ?_ (fun l => eq_body f l)
      unfold mBody
      exact (show PfS f _ by repeat' (first | with_reducible exact PfS.take | with_reducible exact PfS.deep | with_reducible exact PfS.op | with_reducible exact PfS.peek | with_reducible exact PfS.is | with_reducible exact PfS.named | with_reducible exact PfS.name | with_reducible exact PfS.need | with_reducible exact PfS.enter | with_reducible exact PfS.num | with_reducible exact PfS.ret | with_reducible exact ih _ _ | with_reducible exact PfS.before (ih _ _) | (with_reducible refine PfS.bind ?_ (fun _ => ?_)) | (with_reducible refine PfS.ite ?_ ?_) | (unfold mStore) | (unfold mCallSt) | (unfold mAssign) | (unfold mChoice) | (unfold mLoop) | (unfold mClaim) | (unfold mVars) | (unfold mArray) | (unfold mParams) | (unfold mResults) | (unfold mWhen))).1
    | record =>
      refine up ?_ (fun l => eq_record f l)
      unfold mRecord
      exact (show PfS f _ by repeat' (first | with_reducible exact PfS.take | with_reducible exact PfS.deep | with_reducible exact PfS.op | with_reducible exact PfS.peek | with_reducible exact PfS.is | with_reducible exact PfS.named | with_reducible exact PfS.name | with_reducible exact PfS.need | with_reducible exact PfS.enter | with_reducible exact PfS.num | with_reducible exact PfS.ret | with_reducible exact ih _ _ | with_reducible exact PfS.before (ih _ _) | (with_reducible refine PfS.bind ?_ (fun _ => ?_)) | (with_reducible refine PfS.ite ?_ ?_) | (unfold mStore) | (unfold mCallSt) | (unfold mAssign) | (unfold mChoice) | (unfold mLoop) | (unfold mClaim) | (unfold mVars) | (unfold mArray) | (unfold mParams) | (unfold mResults) | (unfold mWhen))).1
    | proc =>
      refine up ?_ (fun l => eq_proc f l)
      unfold mProc
      exact (show PfS f _ by repeat' (first | with_reducible exact PfS.take | with_reducible exact PfS.deep | with_reducible exact PfS.op | with_reducible exact PfS.peek | with_reducible exact PfS.is | with_reducible exact PfS.named | with_reducible exact PfS.name | with_reducible exact PfS.need | with_reducible exact PfS.enter | with_reducible exact PfS.num | with_reducible exact PfS.ret | with_reducible exact ih _ _ | with_reducible exact PfS.before (ih _ _) | (with_reducible refine PfS.bind ?_ (fun _ => ?_)) | (with_reducible refine PfS.ite ?_ ?_) | (unfold mStore) | (unfold mCallSt) | (unfold mAssign) | (unfold mChoice) | (unfold mLoop) | (unfold mClaim) | (unfold mVars) | (unfold mArray) | (unfold mParams) | (unfold mResults) | (unfold mWhen))).1
    | program a =>
      refine up ?_ (fun l => eq_program f l)
      unfold mProgram
      exact (show PfS f _ by repeat' (first | with_reducible exact PfS.take | with_reducible exact PfS.deep | with_reducible exact PfS.op | with_reducible exact PfS.peek | with_reducible exact PfS.is | with_reducible exact PfS.named | with_reducible exact PfS.name | with_reducible exact PfS.need | with_reducible exact PfS.enter | with_reducible exact PfS.num | with_reducible exact PfS.ret | with_reducible exact ih _ _ | with_reducible exact PfS.before (ih _ _) | (with_reducible refine PfS.bind ?_ (fun _ => ?_)) | (with_reducible refine PfS.ite ?_ ?_) | (unfold mStore) | (unfold mCallSt) | (unfold mAssign) | (unfold mChoice) | (unfold mLoop) | (unfold mClaim) | (unfold mVars) | (unfold mArray) | (unfold mParams) | (unfold mResults) | (unfold mWhen))).1
    | cond =>
      intro V V2 S S' y h1 h2 h3 e
      unfold mRead at e ⊢
      rw [pRead] at e ⊢
      exact ih0 (.lvl 0) d V V2 S S' y h1 h2 h3 e
end Go.Proofs.YtdibcllakkjegaaGreatDoor

/-
  parser: procedures and records end where they end; two programs one behind the other.
-/
set_option linter.unusedSimpArgs false
set_option linter.unusedVariables false
namespace Go.Proofs.YtdibcllakkjegaaGreatDoor
open Go Go.Proofs Go.RowKit

theorem is_end {s : List UInt8} (h : s ≠ []) (a : Int) : pIs s [tE a] = false := by
  unfold pIs
  cases s with
  | nil => exact absurd rfl h
  | cons c s => rfl
theorem op_end (i : Nat) (a : Int) : pOp i [tE a] = false := by
  unfold pOp pOps
  split <;> rfl
section
variable {α β : Type} {f : Nat}
end
theorem before_ne {f : Nat} {s : List UInt8} {w : Want} {d : Nat} : Ne1 f (mBefore s w d) := by
  rw [before_eq]
  refine Ne1.bind neCls.is fun b => ?_
  split
  · exact neCls.ret
  · exact ne_read _ _ _
theorem shut_zero (w : Want) (d : Nat) : Shut 0 (mRead w d) := fun a => by
  refine ⟨fun y r e => ?_, fun V S' y hS e => ?_⟩ <;> (unfold mRead at e; rw [pRead] at e; cases e)
theorem shut_body (f d : Nat) : Shut f (mRead .body d) := by
  cases f with
  | zero => exact shut_zero _ _
  | succ f =>
    refine Shut.up (m := mBody d) ?_ (fun l => eq_body f l)
    have ih : ∀ w d, PfS f (mRead w d) := fun w d => ⟨prf_read f w d, suf_read f w d⟩
    unfold mBody
    exact Shut.bind PfS.enter (neCls.enter (d' := d) trivial) fun _ => Shut.bind (ih _ _) (ne_read _ _ _) fun _ => Shut.bind (ih _ _) (ne_read _ _ _) fun _ => Shut.last (Shut.need (by simp))
theorem shut_proc (f d : Nat) : Shut f (mRead .proc d) := by
  cases f with
  | zero => exact shut_zero _ _
  | succ f =>
    refine Shut.up (m := mProc d) ?_ (fun l => eq_proc f l)
    have ih : ∀ w d, PfS f (mRead w d) := fun w d => ⟨prf_read f w d, suf_read f w d⟩
    have hn : ∀ w d, Ne1 f (mRead w d) := fun w d => ne_read f w d
    have p1 : PfS f (mParams d) := by repeat' (first | with_reducible exact PfS.take | with_reducible exact PfS.deep | with_reducible exact PfS.op | with_reducible exact PfS.peek | with_reducible exact PfS.is | with_reducible exact PfS.named | with_reducible exact PfS.name | with_reducible exact PfS.need | with_reducible exact PfS.enter | with_reducible exact PfS.num | with_reducible exact PfS.ret | with_reducible exact ih _ _ | with_reducible exact PfS.before (ih _ _) | (with_reducible refine PfS.bind ?_ (fun _ => ?_)) | (with_reducible refine PfS.ite ?_ ?_) | (unfold mParams) | (unfold mResults) | (unfold mWhen))
    have p2 : PfS f (mResults d) := by repeat' (first | with_reducible exact PfS.take | with_reducible exact PfS.deep | with_reducible exact PfS.op | with_reducible exact PfS.peek | with_reducible exact PfS.is | with_reducible exact PfS.named | with_reducible exact PfS.name | with_reducible exact PfS.need | with_reducible exact PfS.enter | with_reducible exact PfS.num | with_reducible exact PfS.ret | with_reducible exact ih _ _ | with_reducible exact PfS.before (ih _ _) | (with_reducible refine PfS.bind ?_ (fun _ => ?_)) | (with_reducible refine PfS.ite ?_ ?_) | (unfold mParams) | (unfold mResults) | (unfold mWhen))
    have p3 : ∀ s, PfS f (mWhen s d) := by intro s; repeat' (first | with_reducible exact PfS.take | with_reducible exact PfS.deep | with_reducible exact PfS.op | with_reducible exact PfS.peek | with_reducible exact PfS.is | with_reducible exact PfS.named | with_reducible exact PfS.name | with_reducible exact PfS.need | with_reducible exact PfS.enter | with_reducible exact PfS.num | with_reducible exact PfS.ret | with_reducible exact ih _ _ | with_reducible exact PfS.before (ih _ _) | (with_reducible refine PfS.bind ?_ (fun _ => ?_)) | (with_reducible refine PfS.ite ?_ ?_) | (unfold mParams) | (unfold mResults) | (unfold mWhen))
    have n1 : Ne1 f (mParams d) := by unfold mParams; exact Ne1.bind neCls.need fun _ => Ne1.bind before_ne fun _ => Ne1.bind neCls.need fun _ => neCls.ret
    have n2 : Ne1 f (mResults d) := by
      unfold mResults
      refine Ne1.bind neCls.is fun b => ?_
      split
      · exact Ne1.bind neCls.take fun _ => Ne1.bind neCls.need fun _ => Ne1.bind (hn _ _) fun _ => Ne1.bind neCls.need fun _ => neCls.ret
      · exact Ne1.bind neCls.peek fun _ => neCls.ret
    have n3 : ∀ s, Ne1 f (mWhen s d) := by
      intro s
      unfold mWhen
      refine Ne1.bind neCls.peek fun _ => Ne1.bind neCls.is fun b => ?_
      split
      · exact Ne1.bind neCls.take fun _ => Ne1.bind (hn _ _) fun _ => neCls.ret
      · exact neCls.ret
    unfold mProc
    refine Shut.bind PfS.peek neCls.peek fun _ => Shut.bind PfS.is neCls.is fun b => Shut.bind (PfS.ite PfS.take PfS.peek) (by split; exact neCls.take; exact neCls.peek) fun _ => Shut.bind PfS.need neCls.need fun _ => Shut.bind PfS.name neCls.name fun _ =>
      Shut.bind p1 n1 fun _ => Shut.bind p2 n2 fun _ => Shut.bind (p3 _) (n3 _) fun _ => Shut.bind (p3 _) (n3 _) fun _ => Shut.ite (Shut.last (Shut.need (by simp))) (Shut.last (shut_body f d))
theorem read_up {f g : Nat} {w : Want} {d : Nat} {l : List Tk} {r : List Syn × List Tk} (h : pRead f w d l = .ok r) (hg : f ≤ g) : pRead g w d l = .ok r := by
  rw [pRead_more f g w d l hg (by rw [h]; intro q; cases q), h]
/-- An item of a program, and what is behind it. -/
theorem item_on {f : Nat} {w : Want} {d : Nat} {V l1 S : List Tk} {a : Int} {x : List Syn} (hs : Shut f (mRead w d)) (hS : S ≠ []) (h : pRead f w d (V ++ [tE a]) = .ok (x, l1)) :
    ∃ V1, l1 = V1 ++ [tE a] ∧ pRead f w d (V ++ S) = .ok (x, V1 ++ S) := by
  obtain ⟨V1, rfl⟩ := end_suf (suf_read f w d _ _ _ h) (ne_read f w d _ _ _ (by simp) h)
  refine ⟨V1, rfl, ?_⟩
  by_cases hV : V1 = []
  · subst hV
    exact (hs a).2 V S x hS h
  · exact prf_read f w d V V1 [tE a] S x (by simp) hS hV h
end Go.Proofs.YtdibcllakkjegaaGreatDoor

/-
  surveyorlaw09: words for the walks of the laws.
-/
set_option linter.unusedSimpArgs false
set_option linter.unusedVariables false
namespace Go.Proofs.YtdibcllakkjegaaGreatDoor
open Go Go.Proofs Go.RowKit Go.Sort

theorem ent_bad {k : Nat} {s : ByteArray} {a : Int} {c : Nat} {w : World} {f : Nat} {args : Array Value} (hp : pAns k s = .error (a, c)) (h : Calls Tryz.prog f args w (Ans k s w)) : Calls Tryz.prog f args w (EntBad a c w) := by
  refine h.mono ?_
  rintro e w' ⟨k4, a4, t4, n4, o4, l4, c4, a, c, rfl, hb, hx⟩
  rcases hx with ⟨y, h1, -⟩ | ⟨h1, -, hv⟩
  · rw [hp] at h1; cases h1
  · rw [hp] at h1
    cases h1
    rw [hv]
    exact ⟨rfl, hb⟩
end Go.Proofs.YtdibcllakkjegaaGreatDoor

