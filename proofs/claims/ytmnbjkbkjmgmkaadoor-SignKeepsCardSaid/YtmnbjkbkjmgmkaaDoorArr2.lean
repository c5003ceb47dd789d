/-
  An array of two strings by value, opened and shut.
-/
import Derived.Test.YtmnbjkbkjmgmkaaDoorBase
import Derived.OpenShut
import Derived.ChangeMaps5
set_option linter.unusedSimpArgs false
set_option linter.unusedVariables false
namespace Go.Proofs.YtmnbjkbkjmgmkaaDoor
open Go Go.Proofs Go.ChangeShapes Go.WideShapes Go.ChangeMaps

section
variable {H : Type} {enc : TypeId × Value → H} {P : Program} {w : World} {base : Nat} {sp : Nat → Bool} {held : Bool}
theorem open_two {r : Reach} {b0 : Nat} {t e : TypeId} {v : Value} {d : DataW H} {ps : List MemPlace} (ht : P.underlying t = some (.array 2 e)) (he : P.underlying e = some .string) (hc : P.cellsOf e = 1) (hc2 : P.cellsOf t = 2)
    (hv : Value.okWide P w r b0 t v) (h : DataW.Trod enc P w base sp held t v d ps) :
    ∃ s0 s1 : ByteArray, v = .agg #[.string s0, .string s1] ∧ d = .agg [.lit (.string s0.data.toList), .lit (.string s1.data.toList)] ∧ ps = [] ∧ s0.size ≤ maxLen ∧ s1.size ≤ maxLen := by
  unfold Value.okWide at hv
  rw [ht] at hv
  obtain ⟨⟨cs⟩, rfl, hsz, _⟩ := hv
  have hs : cs.length = 2 := by simpa [hc2] using hsz
  match cs, hs with
  | [c0, c1], _ =>
    obtain ⟨fuel, hf⟩ := h
    obtain ⟨xs, m, rfl, hx, _, hl, hel⟩ := DataW.trod_array ht hf
    match xs, hl with
    | [y0, y1], _ =>
      have h0 := hel 0 (by omega); have h1 := hel 1 (by omega)
      simp only [Value.cells, hc, List.drop_zero, Nat.zero_mul, Nat.one_mul] at h0 h1
      obtain ⟨s0, e0, r0, z0⟩ := DataW.trod_string he (show DataW.trod enc P w base sp held m e [c0] = some y0 from h0)
      obtain ⟨s1, e1, r1, z1⟩ := DataW.trod_string he (show DataW.trod enc P w base sp held m e [c1] = some y1 from h1)
      cases e0; cases e1; subst r0 r1
      simp only [Prod.mk.injEq] at hx
      exact ⟨s0, s1, rfl, hx.1, hx.2, z0, z1⟩
theorem shut_two {t e : TypeId} {s0 s1 : ByteArray} (ht : P.underlying t = some (.array 2 e)) (he : P.underlying e = some .string) (hc : P.cellsOf e = 1) (hc2 : P.cellsOf t = 2) (h0 : s0.size ≤ maxLen) (h1 : s1.size ≤ maxLen) :
    DataW.Trod enc P w base sp held t (.agg #[.string s0, .string s1]) (.agg [.lit (.string s0.data.toList), .lit (.string s1.data.toList)]) [] :=
  ⟨2, by
    have r2 : List.range 2 = [0, 1] := rfl
    simp [DataW.trod, Value.cells, ht, he, hc, hc2, h0, h1, r2]⟩
end
end Go.Proofs.YtmnbjkbkjmgmkaaDoor
