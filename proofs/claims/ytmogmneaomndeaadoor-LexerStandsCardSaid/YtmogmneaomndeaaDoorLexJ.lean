/-
  surveyorref08.Same.
-/
import Derived.Test.YtmogmneaomndeaaDoorLexH
import Derived.BigQuiet
import Derived.Deep.QuietTactic
import Derived.Laws.StructEq
set_option linter.unusedSimpArgs false
set_option linter.unusedVariables false
namespace Go.Proofs.YtmogmneaomndeaaDoor
open Go Go.Proofs Go.RowKit

/-- What a slice of tokens holds at a place. -/
theorem TRow.at {W : World} {ao : Option Addr} {c : Nat} {l : List Tk} (h : TRow W ao c l) (hl : l ≠ []) : ∃ b o, ao = some ⟨b, o, none⟩ ∧ ∀ j, j < l.length → ∀ W', Below W.heap.size W W' → W'.cell? ⟨b, o + j * 3, none⟩ = some (.int .i64 (tkD l j).k) ∧ W'.cell? ⟨b, o + j * 3 + 1, none⟩ = some (.string (tkD l j).t) ∧ W'.cell? ⟨b, o + j * 3 + 2, none⟩ = some (.int .i64 (tkD l j).a) := by
  obtain ⟨b, o, rfl, hlt, hcell⟩ := h.2.2.resolve_left hl
  refine ⟨b, o, rfl, fun j hj W' hW => ?_⟩
  obtain ⟨h1, h2, h3⟩ := tkCells_at l j hj
  rw [tkD_eq hj]
  refine ⟨?_, ?_, ?_⟩
  · rw [hW.cell (p := ⟨b, o + j * 3, none⟩) hlt]; exact hcell _ _ h1
  · rw [hW.cell (p := ⟨b, o + j * 3 + 1, none⟩) hlt]; exact hcell _ _ h2
  · rw [hW.cell (p := ⟨b, o + j * 3 + 2, none⟩) hlt]; exact hcell _ _ h3
/-- Equal tokens. -/
def tkB (x y : Tk) : Bool := (x.k == y.k) && ((x.t == y.t) && (x.a == y.a))
/-- Whether the tokens of the first ones are equal, up to the length of the first list. -/
def smB (l m : List Tk) : Bool := decide (l.length = m.length) && (List.range l.length).all fun j => tkB (tkD l j) (tkD m j)

theorem tok_stood : Tryd.prog.stoodInHeld 49 = false := by kernel_rfl
theorem tok_guard : Tryd.prog.eqGuardType Tryd.prog.depth 49 = false := by kernel_rfl
theorem run_neq_tok (x y : Tk) (W : World) : (binOp .neq 49 (.agg #[.int .i64 x.k, .string x.t, .int .i64 x.a]) (.agg #[.int .i64 y.k, .string y.t, .int .i64 y.a])).run Tryd.prog W = .ok (.bool (!tkB x y)) W := by
  have hu := Tryd.underlying49
  have hf : Tryd.prog.underlying 49 = some (.struct (Tryd.prog.fieldsOf 49)) := by unfold Program.fieldsOf; rw [hu]
  rw [run_neq_struct, run_equalIn_struct W 9999 _ _ _ hf tok_stood]
  unfold Program.fieldsOf
  rw [hu]
  unfold tkB
  have hi := Tryd.underlying3
  have hs := Tryd.underlying9
  rw [beq_toListBytes]
  cases h1 : (x.k == y.k) <;> cases h2 : (x.t.toList == y.t.toList) <;> cases h3 : (x.a == y.a) <;> simp [Op.eqFields, go_sem, hi, hs, h1, h2, h3]

set_option maxHeartbeats 1000000 in
theorem same_any (l m : List Tk) (ao bo : Option Addr) (c d : Nat) (w : World) (hl : TRow w ao c l) (hm : TRow w bo d m) (hn : l.length ≤ 1000000) :
    Calls Tryd.prog 14 #[.slice ao l.length c, .slice bo m.length d] w fun e w' => e = .returned (.bool (smB l m)) ∧ Below w.heap.size w w' := by
  by_cases hlen : l.length = m.length
  · by_cases h0 : l = []
    · subst h0
      have hm0 : m = [] := List.length_eq_zero_iff.1 hlen.symm
      subst hm0
      show Calls Tryd.prog 14 #[.slice ao 0 c, .slice bo 0 d] w fun e w' => e = .returned (.bool true) ∧ Below w.heap.size w w'
      clear hl hm hn hlen
      go_enter Tryd.func14, Tryd.ntmps14
      go_wp2_with fail
      go_loopw [5] (fun iv wr => iv = .int .i64 0 ∧ wr = w) (fun iv _ => 0)
      case atStart => exact ⟨rfl, rfl⟩
      case round =>
        obtain ⟨rfl, hw⟩ := hrel
        subst hw
        go_wp2
        go_ret
        exact ⟨rfl, Below.refl _ _⟩
    have hm0 : m ≠ [] := fun e => h0 (List.length_eq_zero_iff.1 (by rw [hlen, e]; rfl))
    obtain ⟨b, o, rfl, h1⟩ := hl.at h0
    obtain ⟨b2, o2, rfl, h2⟩ := hm.at hm0
    obtain ⟨n, hln⟩ : ∃ n, l.length = n := ⟨_, rfl⟩
    have hmn : m.length = n := by omega
    obtain ⟨r, hr⟩ : ∃ r, smB l m = r := ⟨_, rfl⟩
    have hgood : (∀ i, i < n → tkB (tkD l i) (tkD m i) = true) → r = true := fun h => by
      rw [← hr]; unfold smB; rw [decide_eq_true hlen, Bool.true_and, List.all_eq_true]
      intro j hj; exact h j (by rw [← hln]; exact List.mem_range.1 hj)
    have hbad : ∀ i, i < n → tkB (tkD l i) (tkD m i) = false → r = false := fun i hi h => by
      rw [← hr]; unfold smB; rw [decide_eq_true hlen, Bool.true_and, List.all_eq_false]
      exact ⟨i, List.mem_range.2 (by omega), by rw [h]; simp⟩
    rw [hr, hln, hmn]
    have H1 := Lib.hid h1; have H2 := Lib.hid h2; have HLN := Lib.hid hln; have HMN := Lib.hid hmn; have HG := Lib.hid hgood; have HBAD := Lib.hid hbad; have HNN := Lib.hid hn
    clear hl hm h1 h2 h0 hm0 hln hmn hr hgood hbad hn hlen
    go_enter Tryd.func14, Tryd.ntmps14
    go_wp2_with fail
    go_loopw [5] (fun iv wr => ∃ j : Nat, j ≤ n ∧ iv = .int .i64 (j : Int) ∧ (∀ i, i < j → tkB (tkD l i) (tkD m i) = true) ∧ Below w.heap.size w wr) (fun iv _ => n - (intOf iv).toNat)
    case atStart => exact ⟨0, Nat.zero_le _, rfl, fun i h => absurd h (Nat.not_lt_zero _), Below.refl _ _⟩
    case round =>
      obtain ⟨j, hj, rfl, hg, hB⟩ := hrel
      by_cases hlt : j < n
      · obtain ⟨d0, d1, d2⟩ := H1.out j (by rw [HLN.out]; exact hlt) wr hB
        obtain ⟨f0, f1, f2⟩ := H2.out j (by rw [HMN.out]; exact hlt) wr hB
        have ej : wrap64 ((j : Int) + 1) = (j : Int) + 1 := by have q1 := HNN.out; have q2 := HLN.out; unfold wrap64; omega
        have g0 : (0 : Int) ≤ (j : Int) := by omega
        have g1 : (j : Int) < (n : Int) := by omega
        have HGG := Lib.hid hg; have HB := Lib.hid hB
        clear hg hB
        have hbad := HBAD.out j hlt
        have hrun := run_neq_tok (tkD l j) (tkD m j)
        have hgd := tok_guard
        have hstep : tkB (tkD l j) (tkD m j) = true → ∀ i, i < j + 1 → tkB (tkD l i) (tkD m i) = true := fun h i hi => by
          rcases Nat.lt_or_ge i j with q | q
          · exact HGG.out i q
          · obtain rfl : i = j := by omega
            exact h
        generalize tkD l j = x at *
        generalize tkD m j = y at *
        generalize tkB x y = q at *
        obtain ⟨xk, xt, xa⟩ := x
        obtain ⟨yk, yt, ya⟩ := y
        have HJ := Lib.hid hlt
        cases q
        · have hr := hbad rfl
          have HR := Lib.hid hr
          clear hr hbad hstep hlt hj
          go_wp2_with fail
          go_quiet (fail)
          go_wp2
          go_ret
          exact ⟨congrArg (fun z => Ending.returned (.bool z)) HR.out.symm, below_drewN HB.out _⟩
        · have hg2 := hstep rfl
          have HG2 := Lib.hid hg2
          clear hg2 hbad hstep hlt hj
          go_wp2_with fail
          go_quiet (fail)
          go_wp2
          go_roundw
          case rel => exact ⟨j + 1, by have := HJ.out; omega, congrArg (Value.int .i64) (ej.trans (Int.natCast_add j 1).symm), HG2.out, below_drewN HB.out _⟩
          case measure => have := HJ.out; rw [ej]; show n - ((j : Int) + 1).toNat < n - ((j : Int)).toNat; omega
      · obtain rfl : j = n := by omega
        have hr := HG.out (fun i hi => hg i hi)
        have HR := Lib.hid hr; have HB := Lib.hid hB
        have hge : ¬ (j : Int) < (j : Int) := by omega
        clear hr hg hB hlt hj
        go_wp2
        go_ret
        exact ⟨congrArg (fun z => Ending.returned (.bool z)) HR.out.symm, HB.out⟩
  · have hf : smB l m = false := by unfold smB; rw [decide_eq_false hlen, Bool.false_and]
    rw [hf]
    have ne : ((l.length : Int) == (m.length : Int)) = false := by rw [beq_eq_false_iff_ne]; omega
    have ne2 : ((l.length : Int) != (m.length : Int)) = true := by rw [bne_iff_ne]; omega
    have HLN := Lib.hid hlen
    clear hl hm hn hf hlen
    generalize l.length = n at *
    generalize m.length = n2 at *
    go_enter Tryd.func14, Tryd.ntmps14
    go_wp2
    go_ret
    exact ⟨rfl, Below.refl _ _⟩
end Go.Proofs.YtmogmneaomndeaaDoor
