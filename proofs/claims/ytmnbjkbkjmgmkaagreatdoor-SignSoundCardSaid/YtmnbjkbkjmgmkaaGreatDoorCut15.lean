import Derived.OpenShut
import Derived.ChangeMaps5
import Derived.DataShut
import Derived.Test.YtmnbjkbkjmgmkaaGreatDoorCut1

set_option linter.unusedVariables false
/-
  Arrays of two and of three uint8 by value, opened and shut.
-/
set_option linter.unusedSimpArgs false
set_option linter.unusedVariables false
namespace Go.Proofs.YtmnbjkbkjmgmkaaGreatDoor
open Go Go.Proofs Go.ChangeShapes Go.WideShapes Go.ChangeMaps
section
variable {H : Type} {enc : TypeId × Value → H} {P : Program} {w : World} {base : Nat} {sp : Nat → Bool} {held : Bool}
theorem open_b2 {r : Reach} {b0 : Nat} {t e : TypeId} {v : Value} {d : DataW H} {ps : List MemPlace} (ht : P.underlying t = some (.array 2 e)) (he : P.underlying e = some (.int .u8)) (hc : P.cellsOf e = 1) (hc2 : P.cellsOf t = 2)
    (hv : Value.okWide P w r b0 t v) (h : DataW.Trod enc P w base sp held t v d ps) :
    ∃ m0 m1 : Nat, v = .agg #[.int .u8 (m0 : Int), .int .u8 (m1 : Int)] ∧ d = .agg [.lit (.int .u8 (m0 : Int)), .lit (.int .u8 (m1 : Int))] ∧ ps = [] ∧ m0 < 256 ∧ m1 < 256 := by
  unfold Value.okWide at hv
  rw [ht] at hv
  obtain ⟨⟨cs⟩, rfl, hsz, _⟩ := hv
  have hs : cs.length = 2 := by simpa [hc2] using hsz
  match cs, hs with
  | [c0, c1], _ =>
    obtain ⟨fuel, hf⟩ := h
    obtain ⟨xs, m, rfl, hx, _, hl, hel⟩ := DataW.trod_array ht hf
    match xs, hl with
    | [y0, y1], _ =>
      have h0 := hel 0 (by omega); have h1 := hel 1 (by omega)
      simp only [Value.cells, hc, List.drop_zero, Nat.zero_mul, Nat.one_mul] at h0 h1
      obtain ⟨s0, e0, r0, z0⟩ := DataW.trod_int he (show DataW.trod enc P w base sp held m e [c0] = some y0 from h0)
      obtain ⟨s1, e1, r1, z1⟩ := DataW.trod_int he (show DataW.trod enc P w base sp held m e [c1] = some y1 from h1)
      cases e0; cases e1; subst r0 r1
      simp only [Prod.mk.injEq] at hx
      have q0 := (Lit.wf_int_iff .u8 s0).1 z0
      obtain ⟨m0, rfl⟩ : ∃ m : Nat, s0 = (m : Int) := ⟨s0.toNat, by have e : IntKind.u8.min = 0 := rfl; omega⟩
      have l0 : m0 < 256 := by have e : IntKind.u8.max = 255 := rfl; omega
      have q1 := (Lit.wf_int_iff .u8 s1).1 z1
      obtain ⟨m1, rfl⟩ : ∃ m : Nat, s1 = (m : Int) := ⟨s1.toNat, by have e : IntKind.u8.min = 0 := rfl; omega⟩
      have l1 : m1 < 256 := by have e : IntKind.u8.max = 255 := rfl; omega
      exact ⟨m0, m1, rfl, hx.1, hx.2, l0, l1⟩
theorem shut_b2 {t e : TypeId} {m0 m1 : Nat} (ht : P.underlying t = some (.array 2 e)) (he : P.underlying e = some (.int .u8)) (hc : P.cellsOf e = 1) (hc2 : P.cellsOf t = 2) (h0 : m0 < 256) (h1 : m1 < 256) :
    DataW.Trod enc P w base sp held t (.agg #[.int .u8 (m0 : Int), .int .u8 (m1 : Int)]) (.agg [.lit (.int .u8 (m0 : Int)), .lit (.int .u8 (m1 : Int))]) [] :=
  ⟨2, by
    have r2 : List.range 2 = [0, 1] := rfl
    have w0 : (Lit.int .u8 (m0 : Int)).wf = true := (Lit.wf_int_iff .u8 _).2 ⟨by have e : IntKind.u8.min = 0 := rfl; omega, by have e : IntKind.u8.max = 255 := rfl; omega⟩; have w1 : (Lit.int .u8 (m1 : Int)).wf = true := (Lit.wf_int_iff .u8 _).2 ⟨by have e : IntKind.u8.min = 0 := rfl; omega, by have e : IntKind.u8.max = 255 := rfl; omega⟩
    simp [DataW.trod, Value.cells, ht, he, hc, hc2, w0, w1, r2]⟩
theorem open_b3 {r : Reach} {b0 : Nat} {t e : TypeId} {v : Value} {d : DataW H} {ps : List MemPlace} (ht : P.underlying t = some (.array 3 e)) (he : P.underlying e = some (.int .u8)) (hc : P.cellsOf e = 1) (hc2 : P.cellsOf t = 3)
    (hv : Value.okWide P w r b0 t v) (h : DataW.Trod enc P w base sp held t v d ps) :
    ∃ m0 m1 m2 : Nat, v = .agg #[.int .u8 (m0 : Int), .int .u8 (m1 : Int), .int .u8 (m2 : Int)] ∧ d = .agg [.lit (.int .u8 (m0 : Int)), .lit (.int .u8 (m1 : Int)), .lit (.int .u8 (m2 : Int))] ∧ ps = [] ∧ m0 < 256 ∧ m1 < 256 ∧ m2 < 256 := by
  unfold Value.okWide at hv
  rw [ht] at hv
  obtain ⟨⟨cs⟩, rfl, hsz, _⟩ := hv
  have hs : cs.length = 3 := by simpa [hc2] using hsz
  match cs, hs with
  | [c0, c1, c2], _ =>
    obtain ⟨fuel, hf⟩ := h
    obtain ⟨xs, m, rfl, hx, _, hl, hel⟩ := DataW.trod_array ht hf
    match xs, hl with
    | [y0, y1, y2], _ =>
      have h0 := hel 0 (by omega); have h1 := hel 1 (by omega); have h2 := hel 2 (by omega)
      simp only [Value.cells, hc, List.drop_zero, Nat.zero_mul, Nat.one_mul] at h0 h1 h2
      obtain ⟨s0, e0, r0, z0⟩ := DataW.trod_int he (show DataW.trod enc P w base sp held m e [c0] = some y0 from h0)
      obtain ⟨s1, e1, r1, z1⟩ := DataW.trod_int he (show DataW.trod enc P w base sp held m e [c1] = some y1 from h1)
      obtain ⟨s2, e2, r2, z2⟩ := DataW.trod_int he (show DataW.trod enc P w base sp held m e [c2] = some y2 from h2)
      cases e0; cases e1; cases e2; subst r0 r1 r2
      simp only [Prod.mk.injEq] at hx
      have q0 := (Lit.wf_int_iff .u8 s0).1 z0
      obtain ⟨m0, rfl⟩ : ∃ m : Nat, s0 = (m : Int) := ⟨s0.toNat, by have e : IntKind.u8.min = 0 := rfl; omega⟩
      have l0 : m0 < 256 := by have e : IntKind.u8.max = 255 := rfl; omega
      have q1 := (Lit.wf_int_iff .u8 s1).1 z1
      obtain ⟨m1, rfl⟩ : ∃ m : Nat, s1 = (m : Int) := ⟨s1.toNat, by have e : IntKind.u8.min = 0 := rfl; omega⟩
      have l1 : m1 < 256 := by have e : IntKind.u8.max = 255 := rfl; omega
      have q2 := (Lit.wf_int_iff .u8 s2).1 z2
      obtain ⟨m2, rfl⟩ : ∃ m : Nat, s2 = (m : Int) := ⟨s2.toNat, by have e : IntKind.u8.min = 0 := rfl; omega⟩
      have l2 : m2 < 256 := by have e : IntKind.u8.max = 255 := rfl; omega
      exact ⟨m0, m1, m2, rfl, hx.1, hx.2, l0, l1, l2⟩
theorem shut_b3 {t e : TypeId} {m0 m1 m2 : Nat} (ht : P.underlying t = some (.array 3 e)) (he : P.underlying e = some (.int .u8)) (hc : P.cellsOf e = 1) (hc2 : P.cellsOf t = 3) (h0 : m0 < 256) (h1 : m1 < 256) (h2 : m2 < 256) :
    DataW.Trod enc P w base sp held t (.agg #[.int .u8 (m0 : Int), .int .u8 (m1 : Int), .int .u8 (m2 : Int)]) (.agg [.lit (.int .u8 (m0 : Int)), .lit (.int .u8 (m1 : Int)), .lit (.int .u8 (m2 : Int))]) [] :=
  ⟨2, by
    have r2 : List.range 3 = [0, 1, 2] := rfl
    have w0 : (Lit.int .u8 (m0 : Int)).wf = true := (Lit.wf_int_iff .u8 _).2 ⟨by have e : IntKind.u8.min = 0 := rfl; omega, by have e : IntKind.u8.max = 255 := rfl; omega⟩; have w1 : (Lit.int .u8 (m1 : Int)).wf = true := (Lit.wf_int_iff .u8 _).2 ⟨by have e : IntKind.u8.min = 0 := rfl; omega, by have e : IntKind.u8.max = 255 := rfl; omega⟩; have w2 : (Lit.int .u8 (m2 : Int)).wf = true := (Lit.wf_int_iff .u8 _).2 ⟨by have e : IntKind.u8.min = 0 := rfl; omega, by have e : IntKind.u8.max = 255 := rfl; omega⟩
    simp [DataW.trod, Value.cells, ht, he, hc, hc2, w0, w1, w2, r2]⟩
end
end Go.Proofs.YtmnbjkbkjmgmkaaGreatDoor
