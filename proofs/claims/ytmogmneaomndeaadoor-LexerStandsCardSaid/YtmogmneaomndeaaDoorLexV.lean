/-
  surveyorref08.Alike; what Scan answers for a text without its comments.
-/
import Derived.Test.YtmogmneaomndeaaDoorLexP
import Derived.Test.YtmogmneaomndeaaDoorLexJ
import Derived.Test.YtmogmneaomndeaaDoorLexQ
set_option linter.unusedSimpArgs false
set_option linter.unusedVariables false
namespace Go.Proofs.YtmogmneaomndeaaDoor
open Go Go.Proofs Go.RowKit

/-- Tokens that are equal up to their offsets. -/
def tkA (x y : Tk) : Bool := (x.k == y.k) && (x.t == y.t)
def alB (l m : List Tk) : Bool := decide (l.length = m.length) && (List.range l.length).all fun j => tkA (tkD l j) (tkD m j)
theorem tkA_eq (x y : Tk) : tkA x y = true ↔ x.k = y.k ∧ bytes x.t = bytes y.t := by
  unfold tkA
  rw [Bool.and_eq_true, beq_iff_eq, beq_toListBytes, Lib.bytes_beq_iff]
  exact ⟨fun ⟨a, b⟩ => ⟨a, by rw [b]⟩, fun ⟨a, b⟩ => ⟨a, by rw [← str_bytes x.t, b, str_bytes]⟩⟩
def ktL (l : List Tk) : List (Int × List UInt8) := l.map fun t => (t.k, bytes t.t)
theorem alB_iff (l m : List Tk) : alB l m = true ↔ ktL l = ktL m := by
  unfold alB ktL
  rw [Bool.and_eq_true, decide_eq_true_iff, List.all_eq_true]
  constructor
  · rintro ⟨h1, h2⟩
    refine List.ext_getElem (by simpa using h1) fun j hj1 hj2 => ?_
    rw [List.length_map] at hj1 hj2
    have := (tkA_eq _ _).1 (h2 j (List.mem_range.2 hj1))
    rw [tkD_eq hj1, tkD_eq hj2] at this
    simp only [List.getElem_map]
    rw [this.1, this.2]
  · intro h
    have h1 : l.length = m.length := by have := congrArg List.length h; simpa using this
    refine ⟨h1, fun j hj => ?_⟩
    have hj1 := List.mem_range.1 hj
    have hj2 : j < m.length := by omega
    rw [tkD_eq hj1, tkD_eq hj2, tkA_eq]
    have : (l.map fun t => (t.k, bytes t.t))[j]'(by simpa using hj1) = (m.map fun t => (t.k, bytes t.t))[j]'(by simpa using hj2) := by simp only [h]
    simp only [List.getElem_map] at this
    exact ⟨congrArg (·.1) this, congrArg (·.2) this⟩

set_option maxHeartbeats 1000000 in
theorem alike_any (l m : List Tk) (ao bo : Option Addr) (c d : Nat) (w : World) (hl : TRow w ao c l) (hm : TRow w bo d m) (hn : l.length ≤ 1000000) :
    Calls Tryd.prog 32 #[.slice ao l.length c, .slice bo m.length d] w fun e w' => e = .returned (.bool (alB l m)) ∧ Below w.heap.size w w' := by
  by_cases hlen : l.length = m.length
  · by_cases h0 : l = []
    · subst h0
      have hm0 : m = [] := List.length_eq_zero_iff.1 hlen.symm
      subst hm0
      show Calls Tryd.prog 32 #[.slice ao 0 c, .slice bo 0 d] w fun e w' => e = .returned (.bool true) ∧ Below w.heap.size w w'
      clear hl hm hn hlen
      go_enter Tryd.func32, Tryd.ntmps32
      go_wp2_with fail
      go_loopw [5] (fun iv wr => iv = .int .i64 0 ∧ wr = w) (fun iv _ => 0)
      case atStart => exact ⟨rfl, rfl⟩
      case round =>
        obtain ⟨rfl, hw⟩ := hrel
        subst hw
        go_wp2
        go_ret
        exact ⟨rfl, Below.refl _ _⟩
    have hm0 : m ≠ [] := fun e => h0 (List.length_eq_zero_iff.1 (by rw [hlen, e]; rfl))
    obtain ⟨b, o, rfl, h1⟩ := hl.at h0
    obtain ⟨b2, o2, rfl, h2⟩ := hm.at hm0
    obtain ⟨n, hln⟩ : ∃ n, l.length = n := ⟨_, rfl⟩
    have hmn : m.length = n := by omega
    obtain ⟨r, hr⟩ : ∃ r, alB l m = r := ⟨_, rfl⟩
    have hgood : (∀ i, i < n → tkA (tkD l i) (tkD m i) = true) → r = true := fun h => by
      rw [← hr]; unfold alB; rw [decide_eq_true hlen, Bool.true_and, List.all_eq_true]
      intro j hj; exact h j (by rw [← hln]; exact List.mem_range.1 hj)
    have hbad : ∀ i, i < n → tkA (tkD l i) (tkD m i) = false → r = false := fun i hi h => by
      rw [← hr]; unfold alB; rw [decide_eq_true hlen, Bool.true_and, List.all_eq_false]
      exact ⟨i, List.mem_range.2 (by omega), by rw [h]; simp⟩
    rw [hr, hln, hmn]
    have H1 := Lib.hid h1; have H2 := Lib.hid h2; have HLN := Lib.hid hln; have HMN := Lib.hid hmn; have HG := Lib.hid hgood; have HBAD := Lib.hid hbad; have HNN := Lib.hid hn
    clear hl hm h1 h2 h0 hm0 hln hmn hr hgood hbad hn hlen
    go_enter Tryd.func32, Tryd.ntmps32
    go_wp2_with fail
    go_loopw [5] (fun iv wr => ∃ j : Nat, j ≤ n ∧ iv = .int .i64 (j : Int) ∧ (∀ i, i < j → tkA (tkD l i) (tkD m i) = true) ∧ Below w.heap.size w wr) (fun iv _ => n - (intOf iv).toNat)
    case atStart => exact ⟨0, Nat.zero_le _, rfl, fun i h => absurd h (Nat.not_lt_zero _), Below.refl _ _⟩
    case round =>
      obtain ⟨j, hj, rfl, hg, hB⟩ := hrel
      by_cases hlt : j < n
      · obtain ⟨d0, d1, d2⟩ := H1.out j (by rw [HLN.out]; exact hlt) wr hB
        obtain ⟨f0, f1, f2⟩ := H2.out j (by rw [HMN.out]; exact hlt) wr hB
        have ej : wrap64 ((j : Int) + 1) = (j : Int) + 1 := by have q1 := HNN.out; have q2 := HLN.out; unfold wrap64; omega
        have g0 : (0 : Int) ≤ (j : Int) := by omega
        have g1 : (j : Int) < (n : Int) := by omega
        have HGG := Lib.hid hg; have HB := Lib.hid hB
        clear hg hB
        have hbad := HBAD.out j hlt
        have hstep : tkA (tkD l j) (tkD m j) = true → ∀ i, i < j + 1 → tkA (tkD l i) (tkD m i) = true := fun h i hi => by
          rcases Nat.lt_or_ge i j with q | q
          · exact HGG.out i q
          · obtain rfl : i = j := by omega
            exact h
        generalize tkD l j = x at *
        generalize tkD m j = y at *
        obtain ⟨xk, xt, xa⟩ := x
        obtain ⟨yk, yt, ya⟩ := y
        dsimp only at d0 d1 d2 f0 f1 f2
        have hA : tkA ⟨xk, xt, xa⟩ ⟨yk, yt, ya⟩ = ((xk == yk) && (xt.toList == yt.toList)) := by unfold tkA; rw [beq_toListBytes]
        rw [hA] at hbad hstep
        have HJ := Lib.hid hlt
        cases q1 : (xk == yk)
        · rw [q1, Bool.false_and] at hbad
          have hr := hbad rfl
          have p1 : (xk != yk) = true := by rw [bne, q1]; rfl
          have HR := Lib.hid hr
          clear hr hbad hstep hlt hj hA
          go_wp2_with fail
          go_quiet (fail)
          go_wp2
          go_ret
          exact ⟨congrArg (fun z => Ending.returned (.bool z)) HR.out.symm, below_drewN HB.out _⟩
        · have p1 : (xk != yk) = false := by rw [bne, q1]; rfl
          rw [q1, Bool.true_and] at hbad hstep
          cases q2 : (xt.toList == yt.toList)
          · have hr := hbad q2
            have p2 : (xt.toList != yt.toList) = true := by rw [bne, q2]; rfl
            have HR := Lib.hid hr
            clear hr hbad hstep hlt hj hA
            go_wp2_with fail
            go_quiet (fail)
            go_wp2
            go_ret
            exact ⟨congrArg (fun z => Ending.returned (.bool z)) HR.out.symm, below_drewN HB.out _⟩
          · have hg2 := hstep q2
            have p2 : (xt.toList != yt.toList) = false := by rw [bne, q2]; rfl
            have HG2 := Lib.hid hg2
            clear hg2 hbad hstep hlt hj hA
            go_wp2_with fail
            go_quiet (fail)
            go_wp2
            go_roundw
            case rel => exact ⟨j + 1, by have := HJ.out; omega, (by first | exact congrArg (Value.int .i64) (Int.natCast_add j 1).symm | exact congrArg (Value.int .i64) (ej.trans (Int.natCast_add j 1).symm)), HG2.out, below_drewN HB.out _⟩
            case measure => have := HJ.out; first | (show n - ((j : Int) + 1).toNat < n - ((j : Int)).toNat; omega) | (rw [ej]; show n - ((j : Int) + 1).toNat < n - ((j : Int)).toNat; omega)
      · obtain rfl : j = n := by omega
        have hr := HG.out (fun i hi => hg i hi)
        have HR := Lib.hid hr; have HB := Lib.hid hB
        have hge : ¬ (j : Int) < (j : Int) := by omega
        clear hr hg hB hlt hj
        go_wp2
        go_ret
        exact ⟨congrArg (fun z => Ending.returned (.bool z)) HR.out.symm, HB.out⟩
  · have hf : alB l m = false := by unfold alB; rw [decide_eq_false hlen, Bool.false_and]
    rw [hf]
    have ne : ((l.length : Int) == (m.length : Int)) = false := by rw [beq_eq_false_iff_ne]; omega
    have ne2 : ((l.length : Int) != (m.length : Int)) = true := by rw [bne_iff_ne]; omega
    have HLN := Lib.hid hlen
    clear hl hm hn hf hlen
    generalize l.length = n at *
    generalize m.length = n2 at *
    go_enter Tryd.func32, Tryd.ntmps32
    go_wp2
    go_ret
    exact ⟨rfl, Below.refl _ _⟩

theorem ktL_toTk (L : List (Int × List UInt8 × Nat)) : ktL (L.map toTk) = L.map (fun t => (t.1, t.2.1)) := by
  unfold ktL
  rw [List.map_map]
  refine List.map_congr_left fun t _ => ?_
  show (t.1, bytes (str t.2.1)) = _
  rw [bytes_str]
theorem strip_scan {s : ByteArray} (h : s.size ≤ 65536) : (scR (str (stB false (bytes s)))).2.2 = (scR s).2.2 ∧ ktL (scR s).1 = ktL (scR (str (stB false (bytes s)))).1 := by
  have hl := st_len false (bytes s)
  rw [bytes_length] at hl
  have h2 : (str (stB false (bytes s))).size ≤ 65536 := by rw [str_size]; omega
  have e : sqR (bytes (str (stB false (bytes s)))) = sq ((bytes s).length + 1) 0 (stB false (bytes s)) := by
    unfold sqR
    rw [bytes_str]
    exact sq_fuel _ _ _ _ (by omega) (by rw [bytes_length]; omega)
  obtain ⟨i1, i2⟩ := sq_strip ((bytes s).length + 1) 0 0 (bytes s) (by omega)
  rw [scR_sq h, scR_sq h2, e]
  show _ = (if (sq ((bytes s).length + 1) 0 (bytes s)).2.2 = 0 then _ else _ : List Tk × Nat × Nat).2.2 ∧ ktL (if (sq ((bytes s).length + 1) 0 (bytes s)).2.2 = 0 then ((sq ((bytes s).length + 1) 0 (bytes s)).1.map toTk, (sq ((bytes s).length + 1) 0 (bytes s)).2) else ([], (sq ((bytes s).length + 1) 0 (bytes s)).2)).1 = _
  have e3 : (sqR (bytes s)) = sq ((bytes s).length + 1) 0 (bytes s) := rfl
  rw [e3]
  by_cases q : (sq ((bytes s).length + 1) 0 (bytes s)).2.2 = 0
  · rw [if_pos q, if_pos (by rw [i2]; exact q)]
    refine ⟨i2, ?_⟩
    show ktL (List.map toTk _) = ktL (List.map toTk _)
    rw [ktL_toTk, ktL_toTk, i1]
  · rw [if_neg q, if_neg (by rw [i2]; exact q)]
    exact ⟨i2, rfl⟩
end Go.Proofs.YtmogmneaomndeaaDoor
