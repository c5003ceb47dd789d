/-
  surveyorlaw08.few; a slice of tokens that is an argument.
-/
import Derived.Test.YtmogmneaomndeaaDoorLexT
import Derived.Deep.Slices
import Derived.ChangeSame
set_option linter.unusedSimpArgs false
set_option linter.unusedVariables false
namespace Go.Proofs.YtmogmneaomndeaaDoor
open Go Go.Proofs Go.RowKit

/-- A Bool that is true only for short lists. -/
def FewV (v : Value) (n : Nat) : Prop := ∃ r, v = .bool r ∧ (r = true → n ≤ 60)
theorem few_core (l : List Tk) (b o c n k : Nat) (w : World) (hn : l.length = n) (hk : k ≤ n) (hc : n ≤ c) (hmin : min (n : Int) 61 = (k : Int)) (hcm : c ≤ 9223372036854775807)
    (hat : ∀ j, j < l.length → ∀ W', Below w.heap.size w W' → W'.cell? ⟨b, o + j * 3, none⟩ = some (.int .i64 (tkD l j).k) ∧ W'.cell? ⟨b, o + j * 3 + 1, none⟩ = some (.string (tkD l j).t) ∧ W'.cell? ⟨b, o + j * 3 + 2, none⟩ = some (.int .i64 (tkD l j).a)) :
    Calls Tryd.prog 22 #[.slice (some ⟨b, o, none⟩) n c] w fun e w' => ∃ v, e = .returned v ∧ FewV v n ∧ Below w.heap.size w w' := by
  have hk61 : k ≤ 61 := by omega
  have m1 : (0 : Int) ≤ (k : Int) := by omega
  have m2 : (k : Int) ≤ (c : Int) := by omega
  have m3 : (k : Int) ≤ (n : Int) := by omega
  have HAT := Lib.hid hat; have HN := Lib.hid hn; have HK := Lib.hid hk; have HC := Lib.hid hc; have HK61 := Lib.hid hk61
  clear hat hn hk hc hk61
  go_enter Tryd.func22, Tryd.ntmps22
  go_wp2_with fail
  go_loopw [3, 12] (fun x iv wr => ∃ (j : Nat) (z : Int), j ≤ k ∧ iv = .int .i64 (j : Int) ∧ x = .int .i64 z ∧ Below w.heap.size w wr) (fun _ iv _ => k - (intOf iv).toNat)
  case atStart => exact ⟨0, 0, Nat.zero_le _, rfl, rfl, Below.refl _ _⟩
  case round =>
    obtain ⟨j, z, hj, rfl, rfl, hB⟩ := hrel
    by_cases hlt : j < k
    · obtain ⟨d0, d1, d2⟩ := HAT.out j (by rw [HN.out]; have := HK.out; omega) wr hB
      have g0 : (0 : Int) ≤ (j : Int) := by omega
      have g1 : (j : Int) < (k : Int) := by omega
      have ej : wrap64 ((j : Int) + 1) = (j : Int) + 1 := by have := HK61.out; unfold wrap64; omega
      have HJ := Lib.hid hlt
      have hA := hB.alloc hB.size (Obj.cells #[.int .i64 (tkD l j).k, .string (tkD l j).t, .int .i64 (tkD l j).a] 49)
      have HA := Lib.hid hA
      clear hA hB hlt hj
      generalize tkD l j = T at *
      obtain ⟨tk, tt, ta⟩ := T
      go_wp2
      go_roundw
      case rel => exact ⟨j + 1, _, HJ.out, (by first | exact congrArg (Value.int .i64) (Int.natCast_add j 1).symm | exact congrArg (Value.int .i64) (ej.trans (Int.natCast_add j 1).symm)), rfl, HA.out⟩
      case measure => have := HJ.out; first | (show k - ((j : Int) + 1).toNat < k - ((j : Int)).toNat; omega) | (rw [ej]; show k - ((j : Int) + 1).toNat < k - ((j : Int)).toNat; omega)
    · obtain rfl : j = k := by omega
      have hge : ¬ (j : Int) < (j : Int) := by omega
      have HB := Lib.hid hB
      clear hB hlt hj
      by_cases h60 : n ≤ 60
      · have t6 : decide ((n : Int) ≤ 60) = true := by rw [decide_eq_true_iff]; omega
        have t7 : decide (n ≤ 60) = true := by rw [decide_eq_true_iff]; omega
        have H60 := Lib.hid h60; clear h60
        generalize hz : decide (z ≤ 1000) = q
        go_wp2
        go_ret
        exact ⟨_, rfl, ⟨_, rfl, fun _ => H60.out⟩, HB.out⟩
      · have t6 : decide ((n : Int) ≤ 60) = false := by rw [decide_eq_false_iff_not]; omega
        have t7 : decide (n ≤ 60) = false := by rw [decide_eq_false_iff_not]; omega
        have H60 := Lib.hid h60; clear h60
        go_wp2
        go_ret
        exact ⟨_, rfl, ⟨_, rfl, fun h => (by cases h)⟩, HB.out⟩
theorem few_nil (ao : Option Addr) (c : Nat) (w : World) (hc : ao = none → c = 0) (hcm : c ≤ 9223372036854775807) :
    Calls Tryd.prog 22 #[.slice ao 0 c] w fun e w' => ∃ v, e = .returned v ∧ FewV v 0 ∧ Below w.heap.size w w' := by
  have body : ∀ a1 : Option Addr, a1 = ao → Calls Tryd.prog 22 #[.slice a1 0 c] w fun e w' => ∃ v, e = .returned v ∧ FewV v 0 ∧ Below w.heap.size w w' := by
    intro a1 ha
    have m2 : (0 : Int) ≤ (c : Int) := by omega
    cases a1 with
    | none =>
      obtain rfl : c = 0 := hc ha.symm
      go_enter Tryd.func22, Tryd.ntmps22
      go_wp2_with fail
      go_loopw [3, 12] (fun x iv wr => iv = .int .i64 0 ∧ x = .int .i64 0 ∧ wr = w) (fun _ iv _ => 0)
      case atStart => exact ⟨rfl, rfl, rfl⟩
      case round =>
        obtain ⟨rfl, rfl, hw⟩ := hrel
        subst hw
        go_wp2
        go_ret
        exact ⟨_, rfl, ⟨_, rfl, fun _ => Nat.zero_le _⟩, Below.refl _ _⟩
    | some a =>
      go_enter Tryd.func22, Tryd.ntmps22
      go_wp2_with fail
      go_loopw [3, 12] (fun x iv wr => iv = .int .i64 0 ∧ x = .int .i64 0 ∧ wr = w) (fun _ iv _ => 0)
      case atStart => exact ⟨rfl, rfl, rfl⟩
      case round =>
        obtain ⟨rfl, rfl, hw⟩ := hrel
        subst hw
        go_wp2
        go_ret
        exact ⟨_, rfl, ⟨_, rfl, fun _ => Nat.zero_le _⟩, Below.refl _ _⟩
  exact body ao rfl
theorem few_any (l : List Tk) (ao : Option Addr) (c : Nat) (w : World) (hr : TRow w ao c l) (hc : ao = none → c = 0) :
    Calls Tryd.prog 22 #[.slice ao l.length c] w fun e w' => ∃ v, e = .returned v ∧ FewV v l.length ∧ Below w.heap.size w w' := by
  have hcm : c ≤ 9223372036854775807 := by have := hr.2.1; unfold maxLen at this; omega
  by_cases h0 : l = []
  · subst h0
    exact few_nil ao c w hc hcm
  · obtain ⟨b, o, rfl, hat⟩ := hr.at h0
    by_cases h61 : l.length ≤ 61
    · exact few_core l b o c l.length l.length w rfl (Nat.le_refl _) hr.1 (by omega) hcm hat
    · exact few_core l b o c l.length 61 w rfl (by omega) hr.1 (by omega) hcm hat

section
open Go.ChangeShapes Go.WideShapes Go.Deep
variable {H : Type} {enc : TypeId × Value → H} {P : Program} {w : World}
theorem open_toks {r : Reach} {b0 : Nat} {t e : TypeId} {f0 f1 f2 : Field} {v : Value} {d : DataW H} {ps : List MemPlace} (ht : P.underlying t = some (.slice e)) (he : P.underlying e = some (.struct #[f0, f1, f2]))
    (ce : P.cellsOf e = 3) (o0 : f0.offset = 0) (o1 : f1.offset = 1) (o2 : f2.offset = 2) (c0 : P.cellsOf f0.type = 1) (c1 : P.cellsOf f1.type = 1) (c2 : P.cellsOf f2.type = 1)
    (u0 : P.underlying f0.type = some (.int .i64)) (u1 : P.underlying f1.type = some .string) (u2 : P.underlying f2.type = some (.int .i64))
    (hv : Value.okWide P w r b0 t v) (h : DataW.Trod enc P w 0 (fun _ => true) true t v d ps) :
    ∃ (ao : Option Addr) (c : Nat) (l : List Tk), v = .slice ao l.length c ∧ TRow w ao c l ∧ (∀ t ∈ l, t.t.size ≤ 9223372036854775807) ∧ (ao = none → c = 0) := by
  obtain ⟨a, n, c, rfl⟩ := okWide_slice ht hv
  obtain ⟨fuel, hf⟩ := h
  rcases open_slice ht hf with ⟨hcs, -⟩ | ⟨a, len, cap, m, n2, D, Pl, hcs, hb, hl, hm, hmm, hx, hat⟩
  · simp only [Value.cells, List.cons.injEq, and_true] at hcs
    cases hcs
    exact ⟨none, 0, [], rfl, ⟨Nat.le_refl _, by decide, .inl rfl⟩, by simp, fun _ => rfl⟩
  · simp only [Value.cells, List.cons.injEq, and_true] at hcs
    cases hcs
    have hlm : n ≤ m := by rw [hmm]; simp; exact hl
    have each : ∀ i, i < n → ∃ q : Tk, (w.cell? (a.add (i * 3)) = some (.int .i64 q.k) ∧ w.cell? (a.add (i * 3 + 1)) = some (.string q.t) ∧ w.cell? (a.add (i * 3 + 2)) = some (.int .i64 q.a)) ∧ q.t.size ≤ 9223372036854775807 := by
      intro i hi
      obtain ⟨cs', h1, h2⟩ := hat i (by omega)
      rw [ce] at h1
      obtain ⟨_, hlen, hcell⟩ := World.cells?_some h1
      obtain ⟨xs, k, hk, hxy, _, hxl, hff⟩ := DataW.trod_struct he h2
      match xs, hxl, cs', hlen with
      | [y0, y1, y2], _, [v0, v1, v2], _ =>
        have g0 := hff 0 f0 rfl
        have g1 := hff 1 f1 rfl
        have g2 := hff 2 f2 rfl
        simp [o0, o1, o2, c0, c1, c2] at g0 g1 g2
        have e0 := hcell 0 (by omega)
        have e1 := hcell 1 (by omega)
        have e2 := hcell 2 (by omega)
        rw [add_add] at e0 e1 e2
        obtain ⟨k0, q0, -, -⟩ := DataW.trod_int u0 g0
        obtain ⟨s0, q1, -, z1⟩ := DataW.trod_string u1 g1
        obtain ⟨k2, q2, -, -⟩ := DataW.trod_int u2 g2
        simp only [List.cons.injEq, and_true] at q0 q1 q2
        subst q0 q1 q2
        exact ⟨⟨k0, s0, k2⟩, ⟨by simpa using e0, by simpa using e1, by simpa using e2⟩, by unfold maxLen at z1; exact z1⟩
    haveI : Inhabited Tk := ⟨⟨0, ⟨#[]⟩, 0⟩⟩
    obtain ⟨q, hq⟩ := choose_lt each
    have hlen : ((List.range n).map q).length = n := by simp
    have hget : ∀ i (hi : i < ((List.range n).map q).length), ((List.range n).map q)[i]'hi = q i := fun i hi => by simp
    refine ⟨some a, c, (List.range n).map q, by rw [hlen], ⟨by rw [hlen]; exact hl, hm, ?_⟩, fun t ht => ?_, fun h => by cases h⟩
    · rcases Nat.eq_zero_or_pos n with h0 | h0
      · subst h0
        exact .inl (by simp)
      · have x0 := (hq 0 h0).1.1
        obtain ⟨b, off, sp⟩ := a
        have hsp : sp = none := by
          cases sp with
          | none => rfl
          | some q =>
            simp only [Addr.add, World.cell?] at x0
            split at x0 <;> simp at x0
        subst hsp
        refine .inr ⟨b, off, rfl, ?_, fun j u hu => ?_⟩
        · simp only [Addr.add, World.cell?] at x0
          split at x0
          · rename_i hh
            exact (Array.getElem?_eq_some_iff.1 hh).1
          · cases x0
        · have hj : j < n * 3 := by
            have := (List.getElem?_eq_some_iff.1 hu).1
            rw [tkCells_length, hlen] at this
            exact this
          obtain ⟨t0, t1, t2⟩ := tkCells_at ((List.range n).map q) (j / 3) (by rw [hlen]; omega)
          rw [hget] at t0 t1 t2
          obtain ⟨⟨p0, p1, p2⟩, -⟩ := hq (j / 3) (by omega)
          rw [tk_plus] at p0 p1 p2
          have hcase : j = j / 3 * 3 ∨ j = j / 3 * 3 + 1 ∨ j = j / 3 * 3 + 2 := by omega
          generalize j / 3 = i at *
          rcases hcase with rfl | rfl | rfl
          · rw [t0] at hu; rw [← hu]; exact p0
          · rw [t1] at hu; rw [← hu]; exact p1
          · rw [t2] at hu; rw [← hu]; exact p2
    · obtain ⟨i, hi, e⟩ := List.mem_map.1 ht
      subst e
      exact (hq i (List.mem_range.1 hi)).2
end
theorem tok_laidOut : laidOutB Tryd.prog = true := by kernel_rfl
end Go.Proofs.YtmogmneaomndeaaDoor
