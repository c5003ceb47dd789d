import Derived.Test.YtbadibbdoljjhaaGreatDoorCut1
import Derived.OpenShut
import Derived.ChangeMaps5
import Derived.Test.YtbadibbdoljjhaaGreatDoorCut35

set_option linter.unusedVariables false
/-
  An array of two strings by value, opened and shut.
-/
namespace Go.Proofs.YtbadibbdoljjhaaGreatDoor
open Go Go.Proofs Go.ChangeShapes Go.WideShapes Go.ChangeMaps

section
variable {H : Type} {enc : TypeId × Value → H} {P : Program} {w : World} {base : Nat} {sp : Nat → Bool} {held : Bool}
theorem open_two {r : Reach} {b0 : Nat} {t e : TypeId} {v : Value} {d : DataW H} {ps : List MemPlace} (ht : P.underlying t = some (.array 2 e)) (he : P.underlying e = some .string) (hc : P.cellsOf e = 1) (hc2 : P.cellsOf t = 2)
    (hv : Value.okWide P w r b0 t v) (h : DataW.Trod enc P w base sp held t v d ps) :
    ∃ s0 s1 : ByteArray, v = .agg #[.string s0, .string s1] ∧ d = .agg [.lit (.string s0.data.toList), .lit (.string s1.data.toList)] ∧ ps = [] ∧ s0.size ≤ maxLen ∧ s1.size ≤ maxLen := by
  unfold Value.okWide at hv
  rw [ht] at hv
  obtain ⟨⟨cs⟩, rfl, hsz, _⟩ := hv
  have hs : cs.length = 2 := by simpa [hc2] using hsz
  match cs, hs with
  | [c0, c1], _ =>
    obtain ⟨fuel, hf⟩ := h
    obtain ⟨xs, m, rfl, hx, _, hl, hel⟩ := DataW.trod_array ht hf
    match xs, hl with
    | [y0, y1], _ =>
      have h0 := hel 0 (by omega); have h1 := hel 1 (by omega)
      simp only [Value.cells, hc, List.drop_zero, Nat.zero_mul, Nat.one_mul] at h0 h1
      obtain ⟨s0, e0, r0, z0⟩ := DataW.trod_string he (show DataW.trod enc P w base sp held m e [c0] = some y0 from h0)
      obtain ⟨s1, e1, r1, z1⟩ := DataW.trod_string he (show DataW.trod enc P w base sp held m e [c1] = some y1 from h1)
      cases e0; cases e1; subst r0 r1
      simp only [Prod.mk.injEq] at hx
      exact ⟨s0, s1, rfl, hx.1, hx.2, z0, z1⟩
theorem shut_two {t e : TypeId} {s0 s1 : ByteArray} (ht : P.underlying t = some (.array 2 e)) (he : P.underlying e = some .string) (hc : P.cellsOf e = 1) (hc2 : P.cellsOf t = 2) (h0 : s0.size ≤ maxLen) (h1 : s1.size ≤ maxLen) :
    DataW.Trod enc P w base sp held t (.agg #[.string s0, .string s1]) (.agg [.lit (.string s0.data.toList), .lit (.string s1.data.toList)]) [] :=
  ⟨2, by
    have r2 : List.range 2 = [0, 1] := rfl
    simp [DataW.trod, Value.cells, ht, he, hc, hc2, h0, h1, r2]⟩
end
end Go.Proofs.YtbadibbdoljjhaaGreatDoor

/-
  RationalReturns: the walk.
-/
namespace Go.Proofs.YtbadibbdoljjhaaGreatDoor
open Go Go.Proofs Go.RowKit

def shortB (s : ByteArray) : Bool := decide (s.size ≤ 300) && decide (errOf (bytes s) = 0)

set_option maxRecDepth 20000 in
set_option maxHeartbeats 8000000 in
theorem rret_bad (s0 s1 t0 t1 : ByteArray) (w : World) (hz : ∀ x ∈ [s0, s1, t0, t1], x.size ≤ 9223372036854775807) (hb : [s0, s1, t0, t1].all shortB = false)
    (htab : Lib.TabIs Tryz.prog w "internal/strconv.uint64pow10" .u64 Lib.pow10Tab) :
    Calls Tryz.prog 11 #[.agg #[.string s0, .string s1], .agg #[.string t0, .string t1]] w (Bret (.bool true) w) := by
  have hT := Lib.tabBelow_of_tabIs htab
  have CA : ∀ W : World, Below w.heap.size w W → Calls Tryz.prog 26 #[] W (Bret (.bool true) W) := fun W hW => awake02 W (hT.on hW).here
  have KA := Lib.hid CA; have HZ := Lib.hid hz; have HBAD := Lib.hid hb
  clear CA hz hb hT htab
  have T0 : TBox w (((w.alloc (Obj.cells #[.string s0, .string s1] 62)).alloc (Obj.cells #[.string t0, .string t1] 62)).alloc (Obj.cells #[.string s0, .string s1, .string t0, .string t1] 22)) w.heap.size s0 s1 t0 t1 := (tbox_new w 62 s0 s1 t0 t1).mono ((Below.refl _ _).alloc (Nat.le_refl _) _)
  have S0 : StrsAt (((w.alloc (Obj.cells #[.string s0, .string s1] 62)).alloc (Obj.cells #[.string t0, .string t1] 62)).alloc (Obj.cells #[.string s0, .string s1, .string t0, .string t1] 22)) (w.heap.size + 1 + 1) [s0, s1, t0, t1] := fun j h => by
    match j, h with
    | 0, _ => show _ = some (Value.string s0); go_cell
    | 1, _ => show _ = some (Value.string s1); go_cell
    | 2, _ => show _ = some (Value.string t0); go_cell
    | 3, _ => show _ = some (Value.string t1); go_cell
  go_enter Tryz.func11, Tryz.ntmps11
  go_wp2_with fail
  generalize (((w.alloc (Obj.cells #[.string s0, .string s1] 62)).alloc (Obj.cells #[.string t0, .string t1] 62)).alloc (Obj.cells #[.string s0, .string s1, .string t0, .string t1] 22)) = W at *
  generalize hp : w.heap.size = p at *
  have HT := Lib.hid T0; have HS := Lib.hid S0; have HPP := Lib.hid hp
  clear T0 S0 hp
  go_loop [35] (fun iv => ∃ k : Nat, k ≤ 4 ∧ iv = .int .i64 k ∧ ([s0, s1, t0, t1].take k).all shortB = true) (fun iv => 4 - (intOf iv).toNat)
  case atStart => exact ⟨0, Nat.zero_le _, rfl, rfl⟩
  case round =>
    obtain ⟨k, hk, rfl, hall⟩ := hrel
    have HALL := Lib.hid hall; clear hall
    by_cases hlt : k < 4
    · have hlt' : k < [s0, s1, t0, t1].length := hlt
      have ck : W.cell? ⟨p + 1 + 1, k, none⟩ = some (.string ([s0, s1, t0, t1][k]'hlt')) := HS.out k hlt'
      have hzz := HZ.out _ (List.getElem_mem hlt')
      have C := refCheck_any ([s0, s1, t0, t1][k]'hlt') W hzz
      have hsucc := take_all_succ shortB [s0, s1, t0, t1] k hlt'
      rw [HALL.out, Bool.true_and] at hsucc
      have HSU := Lib.hid hsucc; clear hsucc
      generalize [s0, s1, t0, t1][k]'hlt' = sk at *
      by_cases hf : sk.size ≤ 300
      · rcases errOf_cases (bytes sk) with he | he | he
        · have hp1 : shortB sk = true := by unfold shortB; rw [he]; simp [hf]
          have e1 := HSU.out
          rw [hp1] at e1
          have E1 := Lib.hid e1
          rw [he] at C
          have KC := Lib.hid C; clear C e1 hp1 HSU he
          go_wp2_with (go_at_call 55; refine KC.out.mono ?_; rintro e w3 ⟨rfl, h⟩; subst h; refine Hid.out ?_)
          refine Lib.hid ?_
          go_wp2
          go_round
          case rel => exact ⟨k + 1, by omega, by go_num, E1.out⟩
          case measure => simp [intOf]; omega
        all_goals
          rw [he] at C
          have KC := Lib.hid C; clear C HSU he
          go_wp2_with (go_at_call 55; refine KC.out.mono ?_; rintro e w3 ⟨rfl, h⟩; subst h; refine Hid.out ?_)
          refine Lib.hid ?_
          go_wp2_with (go_at_call 26; refine (KA.out _ (HPP.out ▸ HT.out.below)).mono ?_; rintro e w4 ⟨rfl, hb4⟩; refine Hid.out ?_)
          have HB := Lib.hid (Below.chain HT.out.below hb4); clear hb4
          refine Lib.hid ?_
          go_wp2
          refine bodyPost_ret (v := .bool true) (by simp [results, Tryz.results11, go_sem]) rfl ?_
          exact ⟨rfl, HB.out⟩
      · clear C HSU
        go_wp2_with (go_at_call 26; refine (KA.out _ (HPP.out ▸ HT.out.below)).mono ?_; rintro e w4 ⟨rfl, hb4⟩; refine Hid.out ?_)
        have HB := Lib.hid (Below.chain HT.out.below hb4); clear hb4
        refine Lib.hid ?_
        go_wp2
        refine bodyPost_ret (v := .bool true) (by simp [results, Tryz.results11, go_sem]) rfl ?_
        exact ⟨rfl, HB.out⟩
    · exfalso
      have hk4 : k = 4 := by omega
      subst hk4
      have h1 := HALL.out
      have h2 := HBAD.out
      rw [show [s0, s1, t0, t1].take 4 = [s0, s1, t0, t1] from rfl] at h1
      rw [h1] at h2
      cases h2

set_option maxRecDepth 20000 in
set_option maxHeartbeats 16000000 in
theorem rret_zz (s0 t0  : ByteArray) (w : World)
    (hz : ∀ z ∈ [s0, ⟨#[48]⟩, t0, ⟨#[48]⟩], z.size ≤ 300) (hg : ∀ z ∈ [s0, ⟨#[48]⟩, t0, ⟨#[48]⟩], errOf (bytes z) = 0)
    (C1 : ∀ W : World, Below w.heap.size w W → Calls Tryz.prog 39 #[.string s0, .string ⟨#[48]⟩] W (Bret (.tuple #[.string ⟨#[]⟩, .int .i64 19]) W))
    (C2 : ∀ W : World, Below w.heap.size w W → Calls Tryz.prog 39 #[.string t0, .string ⟨#[48]⟩] W (Bret (.tuple #[.string ⟨#[]⟩, .int .i64 19]) W))
    (CA : ∀ W : World, Below w.heap.size w W → Calls Tryz.prog 26 #[] W (Bret (.bool true) W)) :
    Calls Tryz.prog 11 #[.agg #[.string s0, .string ⟨#[48]⟩], .agg #[.string t0, .string ⟨#[48]⟩]] w (Bret (.bool true) w) := by
  have K1 := Lib.hid C1; have K2 := Lib.hid C2; have KA := Lib.hid CA; have HZ := Lib.hid hz; have HG := Lib.hid hg
  clear C1 C2 CA hz hg
  have T0 : TBox w (((w.alloc (Obj.cells #[.string s0, .string ⟨#[48]⟩] 62)).alloc (Obj.cells #[.string t0, .string ⟨#[48]⟩] 62)).alloc (Obj.cells #[.string s0, .string ⟨#[48]⟩, .string t0, .string ⟨#[48]⟩] 22)) w.heap.size s0 ⟨#[48]⟩ t0 ⟨#[48]⟩ := (tbox_new w 62 s0 ⟨#[48]⟩ t0 ⟨#[48]⟩).mono ((Below.refl _ _).alloc (Nat.le_refl _) _)
  have S0 : StrsAt (((w.alloc (Obj.cells #[.string s0, .string ⟨#[48]⟩] 62)).alloc (Obj.cells #[.string t0, .string ⟨#[48]⟩] 62)).alloc (Obj.cells #[.string s0, .string ⟨#[48]⟩, .string t0, .string ⟨#[48]⟩] 22)) (w.heap.size + 1 + 1) [s0, ⟨#[48]⟩, t0, ⟨#[48]⟩] := fun j h => by
    match j, h with
    | 0, _ => show _ = some (Value.string s0); go_cell
    | 1, _ => show _ = some (Value.string ⟨#[48]⟩); go_cell
    | 2, _ => show _ = some (Value.string t0); go_cell
    | 3, _ => show _ = some (Value.string ⟨#[48]⟩); go_cell
  go_enter Tryz.func11, Tryz.ntmps11
  go_wp2_with fail
  generalize (((w.alloc (Obj.cells #[.string s0, .string ⟨#[48]⟩] 62)).alloc (Obj.cells #[.string t0, .string ⟨#[48]⟩] 62)).alloc (Obj.cells #[.string s0, .string ⟨#[48]⟩, .string t0, .string ⟨#[48]⟩] 22)) = W at *
  generalize hp : w.heap.size = p at *
  have HT := Lib.hid T0; have HS := Lib.hid S0; have HPP := Lib.hid hp
  clear T0 S0 hp
  go_loop [35] (fun iv => ∃ k : Nat, k ≤ 4 ∧ iv = .int .i64 k) (fun iv => 4 - (intOf iv).toNat)
  case atStart => exact ⟨0, Nat.zero_le _, rfl⟩
  case round =>
    obtain ⟨k, hk, rfl⟩ := hrel
    by_cases hlt : k < 4
    · have hlt' : k < [s0, ⟨#[48]⟩, t0, ⟨#[48]⟩].length := hlt
      have ck : W.cell? ⟨p + 1 + 1, k, none⟩ = some (.string ([s0, ⟨#[48]⟩, t0, ⟨#[48]⟩][k]'hlt')) := HS.out k hlt'
      have hzz := HZ.out _ (List.getElem_mem hlt')
      have C := refCheck_any ([s0, ⟨#[48]⟩, t0, ⟨#[48]⟩][k]'hlt') W (by omega)
      rw [HG.out _ (List.getElem_mem hlt')] at C
      generalize [s0, ⟨#[48]⟩, t0, ⟨#[48]⟩][k]'hlt' = sk at *
      have KC := Lib.hid C; clear C
      go_wp2_with (go_at_call 55; refine KC.out.mono ?_; rintro e w3 ⟨rfl, h⟩; subst h; refine Hid.out ?_)
      refine Lib.hid ?_
      go_wp2
      go_round
      case rel => exact ⟨k + 1, by omega, by go_num⟩
      case measure => simp [intOf]; omega
    · have hk4 : k = 4 := by omega
      subst hk4
      have K : ∀ W' : World, Below W.heap.size W W' → (W'.cell? ⟨p, 0, none⟩ = some (.string s0) ∧ W'.cell? ⟨p, 1, none⟩ = some (.string ⟨#[48]⟩) ∧ W'.cell? ⟨p + 1, 0, none⟩ = some (.string t0) ∧ W'.cell? ⟨p + 1, 1, none⟩ = some (.string ⟨#[48]⟩)) ∧ Below w.heap.size w W' ∧ Below p w W' := fun W' hW => ⟨⟨(HT.out.mono hW).a0, (HT.out.mono hW).a1, (HT.out.mono hW).c0, (HT.out.mono hW).c1⟩, (HT.out.mono hW).below, (HPP.out ▸ (HT.out.mono hW).below)⟩
      have KK := Lib.hid K
      have hB0 := Below.refl W.heap.size W
      clear K HT HS HZ HG HPP
      obtain ⟨x0, x1, x2, x3⟩ := (KK.out _ hB0).1
      go_wp2_with (go_at_call 39; refine (K1.out _ (KK.out _ hB0).2.2).mono ?_; rintro e w11 ⟨rfl, hb11⟩; refine Hid.out ?_)
      have hB11 := Below.chain hB0 hb11; clear hb11 hB0
      clear x0 x1 x2 x3
      obtain ⟨x0, x1, x2, x3⟩ := (KK.out _ hB11).1
      refine Lib.hid ?_
      go_wp2_with (go_at_call 39; refine (K2.out _ (KK.out _ hB11).2.2).mono ?_; rintro e w12 ⟨rfl, hb12⟩; refine Hid.out ?_)
      have hB12 := Below.chain hB11 hb12; clear hb12 hB11
      clear x0 x1 x2 x3
      obtain ⟨x0, x1, x2, x3⟩ := (KK.out _ hB12).1
      refine Lib.hid ?_
      go_wp2_with (go_at_call 26; refine (KA.out _ (KK.out _ hB12).2.2).mono ?_; rintro e w13 ⟨rfl, hb13⟩; refine Hid.out ?_)
      have hB13 := Below.chain hB12 hb13; clear hb13 hB12
      clear x0 x1 x2 x3
      refine Lib.hid ?_
      go_wp2
      refine bodyPost_ret (v := .bool true) (by simp [results, Tryz.results11, go_sem]) rfl ?_
      exact ⟨rfl, (KK.out _ hB13).2.1⟩

set_option maxRecDepth 20000 in
set_option maxHeartbeats 16000000 in
theorem rret_zn (s0 t0 t1 y : ByteArray) (w : World) (n2 : (t1.toList == [48]) = false)
    (hz : ∀ z ∈ [s0, ⟨#[48]⟩, t0, t1], z.size ≤ 300) (hg : ∀ z ∈ [s0, ⟨#[48]⟩, t0, t1], errOf (bytes z) = 0)
    (C1 : ∀ W : World, Below w.heap.size w W → Calls Tryz.prog 39 #[.string s0, .string ⟨#[48]⟩] W (Bret (.tuple #[.string ⟨#[]⟩, .int .i64 19]) W))
    (C2 : ∀ W : World, Below w.heap.size w W → Calls Tryz.prog 39 #[.string t0, .string t1] W (Bret (.tuple #[.string y, .int .i64 0]) W))
    (CA : ∀ W : World, Below w.heap.size w W → Calls Tryz.prog 26 #[] W (Bret (.bool true) W)) :
    Calls Tryz.prog 11 #[.agg #[.string s0, .string ⟨#[48]⟩], .agg #[.string t0, .string t1]] w (Bret (.bool true) w) := by
  have K1 := Lib.hid C1; have K2 := Lib.hid C2; have KA := Lib.hid CA; have HZ := Lib.hid hz; have HG := Lib.hid hg
  clear C1 C2 CA hz hg
  have T0 : TBox w (((w.alloc (Obj.cells #[.string s0, .string ⟨#[48]⟩] 62)).alloc (Obj.cells #[.string t0, .string t1] 62)).alloc (Obj.cells #[.string s0, .string ⟨#[48]⟩, .string t0, .string t1] 22)) w.heap.size s0 ⟨#[48]⟩ t0 t1 := (tbox_new w 62 s0 ⟨#[48]⟩ t0 t1).mono ((Below.refl _ _).alloc (Nat.le_refl _) _)
  have S0 : StrsAt (((w.alloc (Obj.cells #[.string s0, .string ⟨#[48]⟩] 62)).alloc (Obj.cells #[.string t0, .string t1] 62)).alloc (Obj.cells #[.string s0, .string ⟨#[48]⟩, .string t0, .string t1] 22)) (w.heap.size + 1 + 1) [s0, ⟨#[48]⟩, t0, t1] := fun j h => by
    match j, h with
    | 0, _ => show _ = some (Value.string s0); go_cell
    | 1, _ => show _ = some (Value.string ⟨#[48]⟩); go_cell
    | 2, _ => show _ = some (Value.string t0); go_cell
    | 3, _ => show _ = some (Value.string t1); go_cell
  go_enter Tryz.func11, Tryz.ntmps11
  go_wp2_with fail
  generalize (((w.alloc (Obj.cells #[.string s0, .string ⟨#[48]⟩] 62)).alloc (Obj.cells #[.string t0, .string t1] 62)).alloc (Obj.cells #[.string s0, .string ⟨#[48]⟩, .string t0, .string t1] 22)) = W at *
  generalize hp : w.heap.size = p at *
  have HT := Lib.hid T0; have HS := Lib.hid S0; have HPP := Lib.hid hp
  clear T0 S0 hp
  go_loop [35] (fun iv => ∃ k : Nat, k ≤ 4 ∧ iv = .int .i64 k) (fun iv => 4 - (intOf iv).toNat)
  case atStart => exact ⟨0, Nat.zero_le _, rfl⟩
  case round =>
    obtain ⟨k, hk, rfl⟩ := hrel
    by_cases hlt : k < 4
    · have hlt' : k < [s0, ⟨#[48]⟩, t0, t1].length := hlt
      have ck : W.cell? ⟨p + 1 + 1, k, none⟩ = some (.string ([s0, ⟨#[48]⟩, t0, t1][k]'hlt')) := HS.out k hlt'
      have hzz := HZ.out _ (List.getElem_mem hlt')
      have C := refCheck_any ([s0, ⟨#[48]⟩, t0, t1][k]'hlt') W (by omega)
      rw [HG.out _ (List.getElem_mem hlt')] at C
      generalize [s0, ⟨#[48]⟩, t0, t1][k]'hlt' = sk at *
      have KC := Lib.hid C; clear C
      go_wp2_with (go_at_call 55; refine KC.out.mono ?_; rintro e w3 ⟨rfl, h⟩; subst h; refine Hid.out ?_)
      refine Lib.hid ?_
      go_wp2
      go_round
      case rel => exact ⟨k + 1, by omega, by go_num⟩
      case measure => simp [intOf]; omega
    · have hk4 : k = 4 := by omega
      subst hk4
      have K : ∀ W' : World, Below W.heap.size W W' → (W'.cell? ⟨p, 0, none⟩ = some (.string s0) ∧ W'.cell? ⟨p, 1, none⟩ = some (.string ⟨#[48]⟩) ∧ W'.cell? ⟨p + 1, 0, none⟩ = some (.string t0) ∧ W'.cell? ⟨p + 1, 1, none⟩ = some (.string t1)) ∧ Below w.heap.size w W' ∧ Below p w W' := fun W' hW => ⟨⟨(HT.out.mono hW).a0, (HT.out.mono hW).a1, (HT.out.mono hW).c0, (HT.out.mono hW).c1⟩, (HT.out.mono hW).below, (HPP.out ▸ (HT.out.mono hW).below)⟩
      have KK := Lib.hid K
      have hB0 := Below.refl W.heap.size W
      clear K HT HS HZ HG HPP
      obtain ⟨x0, x1, x2, x3⟩ := (KK.out _ hB0).1
      go_wp2_with (go_at_call 39; refine (K1.out _ (KK.out _ hB0).2.2).mono ?_; rintro e w11 ⟨rfl, hb11⟩; refine Hid.out ?_)
      have hB11 := Below.chain hB0 hb11; clear hb11 hB0
      clear x0 x1 x2 x3
      obtain ⟨x0, x1, x2, x3⟩ := (KK.out _ hB11).1
      refine Lib.hid ?_
      go_wp2_with (go_at_call 39; refine (K2.out _ (KK.out _ hB11).2.2).mono ?_; rintro e w12 ⟨rfl, hb12⟩; refine Hid.out ?_)
      have hB12 := Below.chain hB11 hb12; clear hb12 hB11
      clear x0 x1 x2 x3
      obtain ⟨x0, x1, x2, x3⟩ := (KK.out _ hB12).1
      refine Lib.hid ?_
      go_wp2_with (go_at_call 26; refine (KA.out _ (KK.out _ hB12).2.2).mono ?_; rintro e w13 ⟨rfl, hb13⟩; refine Hid.out ?_)
      have hB13 := Below.chain hB12 hb13; clear hb13 hB12
      clear x0 x1 x2 x3
      refine Lib.hid ?_
      go_wp2
      refine bodyPost_ret (v := .bool true) (by simp [results, Tryz.results11, go_sem]) rfl ?_
      exact ⟨rfl, (KK.out _ hB13).2.1⟩

set_option maxRecDepth 20000 in
set_option maxHeartbeats 16000000 in
theorem rret_nz (s0 s1 t0 x  : ByteArray) (w : World) (n1 : (s1.toList == [48]) = false)
    (hz : ∀ z ∈ [s0, s1, t0, ⟨#[48]⟩], z.size ≤ 300) (hg : ∀ z ∈ [s0, s1, t0, ⟨#[48]⟩], errOf (bytes z) = 0)
    (C1 : ∀ W : World, Below w.heap.size w W → Calls Tryz.prog 39 #[.string s0, .string s1] W (Bret (.tuple #[.string x, .int .i64 0]) W))
    (C2 : ∀ W : World, Below w.heap.size w W → Calls Tryz.prog 39 #[.string t0, .string ⟨#[48]⟩] W (Bret (.tuple #[.string ⟨#[]⟩, .int .i64 19]) W))
    (CA : ∀ W : World, Below w.heap.size w W → Calls Tryz.prog 26 #[] W (Bret (.bool true) W)) :
    Calls Tryz.prog 11 #[.agg #[.string s0, .string s1], .agg #[.string t0, .string ⟨#[48]⟩]] w (Bret (.bool true) w) := by
  have K1 := Lib.hid C1; have K2 := Lib.hid C2; have KA := Lib.hid CA; have HZ := Lib.hid hz; have HG := Lib.hid hg
  clear C1 C2 CA hz hg
  have T0 : TBox w (((w.alloc (Obj.cells #[.string s0, .string s1] 62)).alloc (Obj.cells #[.string t0, .string ⟨#[48]⟩] 62)).alloc (Obj.cells #[.string s0, .string s1, .string t0, .string ⟨#[48]⟩] 22)) w.heap.size s0 s1 t0 ⟨#[48]⟩ := (tbox_new w 62 s0 s1 t0 ⟨#[48]⟩).mono ((Below.refl _ _).alloc (Nat.le_refl _) _)
  have S0 : StrsAt (((w.alloc (Obj.cells #[.string s0, .string s1] 62)).alloc (Obj.cells #[.string t0, .string ⟨#[48]⟩] 62)).alloc (Obj.cells #[.string s0, .string s1, .string t0, .string ⟨#[48]⟩] 22)) (w.heap.size + 1 + 1) [s0, s1, t0, ⟨#[48]⟩] := fun j h => by
    match j, h with
    | 0, _ => show _ = some (Value.string s0); go_cell
    | 1, _ => show _ = some (Value.string s1); go_cell
    | 2, _ => show _ = some (Value.string t0); go_cell
    | 3, _ => show _ = some (Value.string ⟨#[48]⟩); go_cell
  go_enter Tryz.func11, Tryz.ntmps11
  go_wp2_with fail
  generalize (((w.alloc (Obj.cells #[.string s0, .string s1] 62)).alloc (Obj.cells #[.string t0, .string ⟨#[48]⟩] 62)).alloc (Obj.cells #[.string s0, .string s1, .string t0, .string ⟨#[48]⟩] 22)) = W at *
  generalize hp : w.heap.size = p at *
  have HT := Lib.hid T0; have HS := Lib.hid S0; have HPP := Lib.hid hp
  clear T0 S0 hp
  go_loop [35] (fun iv => ∃ k : Nat, k ≤ 4 ∧ iv = .int .i64 k) (fun iv => 4 - (intOf iv).toNat)
  case atStart => exact ⟨0, Nat.zero_le _, rfl⟩
  case round =>
    obtain ⟨k, hk, rfl⟩ := hrel
    by_cases hlt : k < 4
    · have hlt' : k < [s0, s1, t0, ⟨#[48]⟩].length := hlt
      have ck : W.cell? ⟨p + 1 + 1, k, none⟩ = some (.string ([s0, s1, t0, ⟨#[48]⟩][k]'hlt')) := HS.out k hlt'
      have hzz := HZ.out _ (List.getElem_mem hlt')
      have C := refCheck_any ([s0, s1, t0, ⟨#[48]⟩][k]'hlt') W (by omega)
      rw [HG.out _ (List.getElem_mem hlt')] at C
      generalize [s0, s1, t0, ⟨#[48]⟩][k]'hlt' = sk at *
      have KC := Lib.hid C; clear C
      go_wp2_with (go_at_call 55; refine KC.out.mono ?_; rintro e w3 ⟨rfl, h⟩; subst h; refine Hid.out ?_)
      refine Lib.hid ?_
      go_wp2
      go_round
      case rel => exact ⟨k + 1, by omega, by go_num⟩
      case measure => simp [intOf]; omega
    · have hk4 : k = 4 := by omega
      subst hk4
      have K : ∀ W' : World, Below W.heap.size W W' → (W'.cell? ⟨p, 0, none⟩ = some (.string s0) ∧ W'.cell? ⟨p, 1, none⟩ = some (.string s1) ∧ W'.cell? ⟨p + 1, 0, none⟩ = some (.string t0) ∧ W'.cell? ⟨p + 1, 1, none⟩ = some (.string ⟨#[48]⟩)) ∧ Below w.heap.size w W' ∧ Below p w W' := fun W' hW => ⟨⟨(HT.out.mono hW).a0, (HT.out.mono hW).a1, (HT.out.mono hW).c0, (HT.out.mono hW).c1⟩, (HT.out.mono hW).below, (HPP.out ▸ (HT.out.mono hW).below)⟩
      have KK := Lib.hid K
      have hB0 := Below.refl W.heap.size W
      clear K HT HS HZ HG HPP
      obtain ⟨x0, x1, x2, x3⟩ := (KK.out _ hB0).1
      go_wp2_with (go_at_call 39; refine (K1.out _ (KK.out _ hB0).2.2).mono ?_; rintro e w11 ⟨rfl, hb11⟩; refine Hid.out ?_)
      have hB11 := Below.chain hB0 hb11; clear hb11 hB0
      clear x0 x1 x2 x3
      obtain ⟨x0, x1, x2, x3⟩ := (KK.out _ hB11).1
      refine Lib.hid ?_
      go_wp2_with (go_at_call 39; refine (K2.out _ (KK.out _ hB11).2.2).mono ?_; rintro e w12 ⟨rfl, hb12⟩; refine Hid.out ?_)
      have hB12 := Below.chain hB11 hb12; clear hb12 hB11
      clear x0 x1 x2 x3
      obtain ⟨x0, x1, x2, x3⟩ := (KK.out _ hB12).1
      refine Lib.hid ?_
      go_wp2_with (go_at_call 26; refine (KA.out _ (KK.out _ hB12).2.2).mono ?_; rintro e w13 ⟨rfl, hb13⟩; refine Hid.out ?_)
      have hB13 := Below.chain hB12 hb13; clear hb13 hB12
      clear x0 x1 x2 x3
      refine Lib.hid ?_
      go_wp2
      refine bodyPost_ret (v := .bool true) (by simp [results, Tryz.results11, go_sem]) rfl ?_
      exact ⟨rfl, (KK.out _ hB13).2.1⟩

set_option maxRecDepth 20000 in
set_option maxHeartbeats 16000000 in
theorem rret_eq (s0 s1 t0 t1 x y n d l : ByteArray) (w : World) (n1 : (s1.toList == [48]) = false) (n2 : (t1.toList == [48]) = false)
    (hz : ∀ z ∈ [s0, s1, t0, t1], z.size ≤ 300) (hg : ∀ z ∈ [s0, s1, t0, t1], errOf (bytes z) = 0)
    (C1 : ∀ W : World, Below w.heap.size w W → Calls Tryz.prog 39 #[.string s0, .string s1] W (Bret (.tuple #[.string x, .int .i64 0]) W))
    (C2 : ∀ W : World, Below w.heap.size w W → Calls Tryz.prog 39 #[.string t0, .string t1] W (Bret (.tuple #[.string x, .int .i64 0]) W))
    (C3 : ∀ W : World, Below w.heap.size w W → Calls Tryz.prog 27 #[.string x] W (Bret (.tuple #[.string n, .int .i64 0]) W))
    (C4 : ∀ W : World, Below w.heap.size w W → Calls Tryz.prog 28 #[.string x] W (Bret (.tuple #[.string d, .int .i64 0]) W))
    (C5 : ∀ W : World, Below w.heap.size w W → Calls Tryz.prog 39 #[.string n, .string d] W (Bret (.tuple #[.string x, .int .i64 0]) W))
    (C6 : ∀ W : World, Below w.heap.size w W → Calls Tryz.prog 19 #[.string n, .string d] W (Bret (.tuple #[.string ⟨#[49]⟩, .int .i64 0]) W))
    (C7 : ∀ W : World, Below w.heap.size w W → Calls Tryz.prog 56 #[.string d] W (Bret (.tuple #[.int .i64 1, .int .i64 0]) W))
    (C8 : ∀ W : World, Below w.heap.size w W → Calls Tryz.prog 57 #[.string s0, .string t1] W (Bret (.tuple #[.string l, .int .i64 0]) W))
    (C9 : ∀ W : World, Below w.heap.size w W → Calls Tryz.prog 57 #[.string t0, .string s1] W (Bret (.tuple #[.string l, .int .i64 0]) W))
    (CA : ∀ W : World, Below w.heap.size w W → Calls Tryz.prog 26 #[] W (Bret (.bool true) W)) :
    Calls Tryz.prog 11 #[.agg #[.string s0, .string s1], .agg #[.string t0, .string t1]] w (Bret (.bool true) w) := by
  have K1 := Lib.hid C1; have K2 := Lib.hid C2; have K3 := Lib.hid C3; have K4 := Lib.hid C4; have K5 := Lib.hid C5; have K6 := Lib.hid C6; have K7 := Lib.hid C7; have K8 := Lib.hid C8; have K9 := Lib.hid C9; have KA := Lib.hid CA; have HZ := Lib.hid hz; have HG := Lib.hid hg
  clear C1 C2 C3 C4 C5 C6 C7 C8 C9 CA hz hg
  have T0 : TBox w (((w.alloc (Obj.cells #[.string s0, .string s1] 62)).alloc (Obj.cells #[.string t0, .string t1] 62)).alloc (Obj.cells #[.string s0, .string s1, .string t0, .string t1] 22)) w.heap.size s0 s1 t0 t1 := (tbox_new w 62 s0 s1 t0 t1).mono ((Below.refl _ _).alloc (Nat.le_refl _) _)
  have S0 : StrsAt (((w.alloc (Obj.cells #[.string s0, .string s1] 62)).alloc (Obj.cells #[.string t0, .string t1] 62)).alloc (Obj.cells #[.string s0, .string s1, .string t0, .string t1] 22)) (w.heap.size + 1 + 1) [s0, s1, t0, t1] := fun j h => by
    match j, h with
    | 0, _ => show _ = some (Value.string s0); go_cell
    | 1, _ => show _ = some (Value.string s1); go_cell
    | 2, _ => show _ = some (Value.string t0); go_cell
    | 3, _ => show _ = some (Value.string t1); go_cell
  go_enter Tryz.func11, Tryz.ntmps11
  go_wp2_with fail
  generalize (((w.alloc (Obj.cells #[.string s0, .string s1] 62)).alloc (Obj.cells #[.string t0, .string t1] 62)).alloc (Obj.cells #[.string s0, .string s1, .string t0, .string t1] 22)) = W at *
  generalize hp : w.heap.size = p at *
  have HT := Lib.hid T0; have HS := Lib.hid S0; have HPP := Lib.hid hp
  clear T0 S0 hp
  go_loop [35] (fun iv => ∃ k : Nat, k ≤ 4 ∧ iv = .int .i64 k) (fun iv => 4 - (intOf iv).toNat)
  case atStart => exact ⟨0, Nat.zero_le _, rfl⟩
  case round =>
    obtain ⟨k, hk, rfl⟩ := hrel
    by_cases hlt : k < 4
    · have hlt' : k < [s0, s1, t0, t1].length := hlt
      have ck : W.cell? ⟨p + 1 + 1, k, none⟩ = some (.string ([s0, s1, t0, t1][k]'hlt')) := HS.out k hlt'
      have hzz := HZ.out _ (List.getElem_mem hlt')
      have C := refCheck_any ([s0, s1, t0, t1][k]'hlt') W (by omega)
      rw [HG.out _ (List.getElem_mem hlt')] at C
      generalize [s0, s1, t0, t1][k]'hlt' = sk at *
      have KC := Lib.hid C; clear C
      go_wp2_with (go_at_call 55; refine KC.out.mono ?_; rintro e w3 ⟨rfl, h⟩; subst h; refine Hid.out ?_)
      refine Lib.hid ?_
      go_wp2
      go_round
      case rel => exact ⟨k + 1, by omega, by go_num⟩
      case measure => simp [intOf]; omega
    · have hk4 : k = 4 := by omega
      subst hk4
      have K : ∀ W' : World, Below W.heap.size W W' → (W'.cell? ⟨p, 0, none⟩ = some (.string s0) ∧ W'.cell? ⟨p, 1, none⟩ = some (.string s1) ∧ W'.cell? ⟨p + 1, 0, none⟩ = some (.string t0) ∧ W'.cell? ⟨p + 1, 1, none⟩ = some (.string t1)) ∧ Below w.heap.size w W' ∧ Below p w W' := fun W' hW => ⟨⟨(HT.out.mono hW).a0, (HT.out.mono hW).a1, (HT.out.mono hW).c0, (HT.out.mono hW).c1⟩, (HT.out.mono hW).below, (HPP.out ▸ (HT.out.mono hW).below)⟩
      have KK := Lib.hid K
      have hB0 := Below.refl W.heap.size W
      clear K HT HS HZ HG HPP
      obtain ⟨x0, x1, x2, x3⟩ := (KK.out _ hB0).1
      go_wp2_with (go_at_call 39; refine (K1.out _ (KK.out _ hB0).2.2).mono ?_; rintro e w11 ⟨rfl, hb11⟩; refine Hid.out ?_)
      have hB11 := Below.chain hB0 hb11; clear hb11 hB0
      clear x0 x1 x2 x3
      obtain ⟨x0, x1, x2, x3⟩ := (KK.out _ hB11).1
      refine Lib.hid ?_
      go_wp2_with (go_at_call 39; refine (K2.out _ (KK.out _ hB11).2.2).mono ?_; rintro e w12 ⟨rfl, hb12⟩; refine Hid.out ?_)
      have hB12 := Below.chain hB11 hb12; clear hb12 hB11
      clear x0 x1 x2 x3
      obtain ⟨x0, x1, x2, x3⟩ := (KK.out _ hB12).1
      refine Lib.hid ?_
      go_wp2_with (go_at_call 27; refine (K3.out _ (KK.out _ hB12).2.2).mono ?_; rintro e w13 ⟨rfl, hb13⟩; refine Hid.out ?_)
      have hB13 := Below.chain hB12 hb13; clear hb13 hB12
      clear x0 x1 x2 x3
      refine Lib.hid ?_
      go_wp2_with (go_at_call 28; refine (K4.out _ (KK.out _ hB13).2.2).mono ?_; rintro e w14 ⟨rfl, hb14⟩; refine Hid.out ?_)
      have hB14 := Below.chain hB13 hb14; clear hb14 hB13
      refine Lib.hid ?_
      go_wp2_with (go_at_call 39; refine (K5.out _ (KK.out _ hB14).2.2).mono ?_; rintro e w15 ⟨rfl, hb15⟩; refine Hid.out ?_)
      have hB15 := Below.chain hB14 hb15; clear hb15 hB14
      refine Lib.hid ?_
      go_wp2_with (go_at_call 19; refine (K6.out _ (KK.out _ hB15).2.2).mono ?_; rintro e w16 ⟨rfl, hb16⟩; refine Hid.out ?_)
      have hB16 := Below.chain hB15 hb16; clear hb16 hB15
      refine Lib.hid ?_
      go_wp2_with (go_at_call 56; refine (K7.out _ (KK.out _ hB16).2.2).mono ?_; rintro e w17 ⟨rfl, hb17⟩; refine Hid.out ?_)
      have hB17 := Below.chain hB16 hb17; clear hb17 hB16
      obtain ⟨x0, x1, x2, x3⟩ := (KK.out _ hB17).1
      refine Lib.hid ?_
      go_wp2_with (go_at_call 57; refine (K8.out _ (KK.out _ hB17).2.2).mono ?_; rintro e w18 ⟨rfl, hb18⟩; refine Hid.out ?_)
      have hB18 := Below.chain hB17 hb18; clear hb18 hB17
      clear x0 x1 x2 x3
      obtain ⟨x0, x1, x2, x3⟩ := (KK.out _ hB18).1
      refine Lib.hid ?_
      go_wp2_with (go_at_call 57; refine (K9.out _ (KK.out _ hB18).2.2).mono ?_; rintro e w19 ⟨rfl, hb19⟩; refine Hid.out ?_)
      have hB19 := Below.chain hB18 hb19; clear hb19 hB18
      clear x0 x1 x2 x3
      refine Lib.hid ?_
      go_wp2_with (go_at_call 26; refine (KA.out _ (KK.out _ hB19).2.2).mono ?_; rintro e w20 ⟨rfl, hb20⟩; refine Hid.out ?_)
      have hB20 := Below.chain hB19 hb20; clear hb20 hB19
      refine Lib.hid ?_
      go_wp2
      refine bodyPost_ret (v := .bool true) (by simp [results, Tryz.results11, go_sem]) rfl ?_
      exact ⟨rfl, (KK.out _ hB20).2.1⟩

set_option maxRecDepth 20000 in
set_option maxHeartbeats 16000000 in
theorem rret_ne (s0 s1 t0 t1 x y n d l r : ByteArray) (w : World) (n1 : (s1.toList == [48]) = false) (n2 : (t1.toList == [48]) = false) (n3 : (x.toList == y.toList) = false) (n4 : (l.toList == r.toList) = false)
    (hz : ∀ z ∈ [s0, s1, t0, t1], z.size ≤ 300) (hg : ∀ z ∈ [s0, s1, t0, t1], errOf (bytes z) = 0)
    (C1 : ∀ W : World, Below w.heap.size w W → Calls Tryz.prog 39 #[.string s0, .string s1] W (Bret (.tuple #[.string x, .int .i64 0]) W))
    (C2 : ∀ W : World, Below w.heap.size w W → Calls Tryz.prog 39 #[.string t0, .string t1] W (Bret (.tuple #[.string y, .int .i64 0]) W))
    (C3 : ∀ W : World, Below w.heap.size w W → Calls Tryz.prog 27 #[.string x] W (Bret (.tuple #[.string n, .int .i64 0]) W))
    (C4 : ∀ W : World, Below w.heap.size w W → Calls Tryz.prog 28 #[.string x] W (Bret (.tuple #[.string d, .int .i64 0]) W))
    (C5 : ∀ W : World, Below w.heap.size w W → Calls Tryz.prog 39 #[.string n, .string d] W (Bret (.tuple #[.string x, .int .i64 0]) W))
    (C6 : ∀ W : World, Below w.heap.size w W → Calls Tryz.prog 19 #[.string n, .string d] W (Bret (.tuple #[.string ⟨#[49]⟩, .int .i64 0]) W))
    (C7 : ∀ W : World, Below w.heap.size w W → Calls Tryz.prog 56 #[.string d] W (Bret (.tuple #[.int .i64 1, .int .i64 0]) W))
    (C8 : ∀ W : World, Below w.heap.size w W → Calls Tryz.prog 57 #[.string s0, .string t1] W (Bret (.tuple #[.string l, .int .i64 0]) W))
    (C9 : ∀ W : World, Below w.heap.size w W → Calls Tryz.prog 57 #[.string t0, .string s1] W (Bret (.tuple #[.string r, .int .i64 0]) W))
    (CA : ∀ W : World, Below w.heap.size w W → Calls Tryz.prog 26 #[] W (Bret (.bool true) W)) :
    Calls Tryz.prog 11 #[.agg #[.string s0, .string s1], .agg #[.string t0, .string t1]] w (Bret (.bool true) w) := by
  have K1 := Lib.hid C1; have K2 := Lib.hid C2; have K3 := Lib.hid C3; have K4 := Lib.hid C4; have K5 := Lib.hid C5; have K6 := Lib.hid C6; have K7 := Lib.hid C7; have K8 := Lib.hid C8; have K9 := Lib.hid C9; have KA := Lib.hid CA; have HZ := Lib.hid hz; have HG := Lib.hid hg
  clear C1 C2 C3 C4 C5 C6 C7 C8 C9 CA hz hg
  have T0 : TBox w (((w.alloc (Obj.cells #[.string s0, .string s1] 62)).alloc (Obj.cells #[.string t0, .string t1] 62)).alloc (Obj.cells #[.string s0, .string s1, .string t0, .string t1] 22)) w.heap.size s0 s1 t0 t1 := (tbox_new w 62 s0 s1 t0 t1).mono ((Below.refl _ _).alloc (Nat.le_refl _) _)
  have S0 : StrsAt (((w.alloc (Obj.cells #[.string s0, .string s1] 62)).alloc (Obj.cells #[.string t0, .string t1] 62)).alloc (Obj.cells #[.string s0, .string s1, .string t0, .string t1] 22)) (w.heap.size + 1 + 1) [s0, s1, t0, t1] := fun j h => by
    match j, h with
    | 0, _ => show _ = some (Value.string s0); go_cell
    | 1, _ => show _ = some (Value.string s1); go_cell
    | 2, _ => show _ = some (Value.string t0); go_cell
    | 3, _ => show _ = some (Value.string t1); go_cell
  go_enter Tryz.func11, Tryz.ntmps11
  go_wp2_with fail
  generalize (((w.alloc (Obj.cells #[.string s0, .string s1] 62)).alloc (Obj.cells #[.string t0, .string t1] 62)).alloc (Obj.cells #[.string s0, .string s1, .string t0, .string t1] 22)) = W at *
  generalize hp : w.heap.size = p at *
  have HT := Lib.hid T0; have HS := Lib.hid S0; have HPP := Lib.hid hp
  clear T0 S0 hp
  go_loop [35] (fun iv => ∃ k : Nat, k ≤ 4 ∧ iv = .int .i64 k) (fun iv => 4 - (intOf iv).toNat)
  case atStart => exact ⟨0, Nat.zero_le _, rfl⟩
  case round =>
    obtain ⟨k, hk, rfl⟩ := hrel
    by_cases hlt : k < 4
    · have hlt' : k < [s0, s1, t0, t1].length := hlt
      have ck : W.cell? ⟨p + 1 + 1, k, none⟩ = some (.string ([s0, s1, t0, t1][k]'hlt')) := HS.out k hlt'
      have hzz := HZ.out _ (List.getElem_mem hlt')
      have C := refCheck_any ([s0, s1, t0, t1][k]'hlt') W (by omega)
      rw [HG.out _ (List.getElem_mem hlt')] at C
      generalize [s0, s1, t0, t1][k]'hlt' = sk at *
      have KC := Lib.hid C; clear C
      go_wp2_with (go_at_call 55; refine KC.out.mono ?_; rintro e w3 ⟨rfl, h⟩; subst h; refine Hid.out ?_)
      refine Lib.hid ?_
      go_wp2
      go_round
      case rel => exact ⟨k + 1, by omega, by go_num⟩
      case measure => simp [intOf]; omega
    · have hk4 : k = 4 := by omega
      subst hk4
      have K : ∀ W' : World, Below W.heap.size W W' → (W'.cell? ⟨p, 0, none⟩ = some (.string s0) ∧ W'.cell? ⟨p, 1, none⟩ = some (.string s1) ∧ W'.cell? ⟨p + 1, 0, none⟩ = some (.string t0) ∧ W'.cell? ⟨p + 1, 1, none⟩ = some (.string t1)) ∧ Below w.heap.size w W' ∧ Below p w W' := fun W' hW => ⟨⟨(HT.out.mono hW).a0, (HT.out.mono hW).a1, (HT.out.mono hW).c0, (HT.out.mono hW).c1⟩, (HT.out.mono hW).below, (HPP.out ▸ (HT.out.mono hW).below)⟩
      have KK := Lib.hid K
      have hB0 := Below.refl W.heap.size W
      clear K HT HS HZ HG HPP
      obtain ⟨x0, x1, x2, x3⟩ := (KK.out _ hB0).1
      go_wp2_with (go_at_call 39; refine (K1.out _ (KK.out _ hB0).2.2).mono ?_; rintro e w11 ⟨rfl, hb11⟩; refine Hid.out ?_)
      have hB11 := Below.chain hB0 hb11; clear hb11 hB0
      clear x0 x1 x2 x3
      obtain ⟨x0, x1, x2, x3⟩ := (KK.out _ hB11).1
      refine Lib.hid ?_
      go_wp2_with (go_at_call 39; refine (K2.out _ (KK.out _ hB11).2.2).mono ?_; rintro e w12 ⟨rfl, hb12⟩; refine Hid.out ?_)
      have hB12 := Below.chain hB11 hb12; clear hb12 hB11
      clear x0 x1 x2 x3
      obtain ⟨x0, x1, x2, x3⟩ := (KK.out _ hB12).1
      refine Lib.hid ?_
      go_wp2_with (go_at_call 27; refine (K3.out _ (KK.out _ hB12).2.2).mono ?_; rintro e w13 ⟨rfl, hb13⟩; refine Hid.out ?_)
      have hB13 := Below.chain hB12 hb13; clear hb13 hB12
      clear x0 x1 x2 x3
      refine Lib.hid ?_
      go_wp2_with (go_at_call 28; refine (K4.out _ (KK.out _ hB13).2.2).mono ?_; rintro e w14 ⟨rfl, hb14⟩; refine Hid.out ?_)
      have hB14 := Below.chain hB13 hb14; clear hb14 hB13
      refine Lib.hid ?_
      go_wp2_with (go_at_call 39; refine (K5.out _ (KK.out _ hB14).2.2).mono ?_; rintro e w15 ⟨rfl, hb15⟩; refine Hid.out ?_)
      have hB15 := Below.chain hB14 hb15; clear hb15 hB14
      refine Lib.hid ?_
      go_wp2_with (go_at_call 19; refine (K6.out _ (KK.out _ hB15).2.2).mono ?_; rintro e w16 ⟨rfl, hb16⟩; refine Hid.out ?_)
      have hB16 := Below.chain hB15 hb16; clear hb16 hB15
      refine Lib.hid ?_
      go_wp2_with (go_at_call 56; refine (K7.out _ (KK.out _ hB16).2.2).mono ?_; rintro e w17 ⟨rfl, hb17⟩; refine Hid.out ?_)
      have hB17 := Below.chain hB16 hb17; clear hb17 hB16
      obtain ⟨x0, x1, x2, x3⟩ := (KK.out _ hB17).1
      refine Lib.hid ?_
      go_wp2_with (go_at_call 57; refine (K8.out _ (KK.out _ hB17).2.2).mono ?_; rintro e w18 ⟨rfl, hb18⟩; refine Hid.out ?_)
      have hB18 := Below.chain hB17 hb18; clear hb18 hB17
      clear x0 x1 x2 x3
      obtain ⟨x0, x1, x2, x3⟩ := (KK.out _ hB18).1
      refine Lib.hid ?_
      go_wp2_with (go_at_call 57; refine (K9.out _ (KK.out _ hB18).2.2).mono ?_; rintro e w19 ⟨rfl, hb19⟩; refine Hid.out ?_)
      have hB19 := Below.chain hB18 hb19; clear hb19 hB18
      clear x0 x1 x2 x3
      refine Lib.hid ?_
      go_wp2_with (go_at_call 26; refine (KA.out _ (KK.out _ hB19).2.2).mono ?_; rintro e w20 ⟨rfl, hb20⟩; refine Hid.out ?_)
      have hB20 := Below.chain hB19 hb20; clear hb20 hB19
      refine Lib.hid ?_
      go_wp2
      refine bodyPost_ret (v := .bool true) (by simp [results, Tryz.results11, go_sem]) rfl ?_
      exact ⟨rfl, (KK.out _ hB20).2.1⟩

theorem of_zero (s : ByteArray) (x : Int) (w : World) (hs : Str s x) (htab : Lib.TabIs Tryz.prog w "internal/strconv.uint64pow10" .u64 Lib.pow10Tab) : Calls Tryz.prog 39 #[.string s, .string ⟨#[48]⟩] w (Bret (.tuple #[.string ⟨#[]⟩, .int .i64 19]) w) := by
  have := ofR_any s ⟨#[48]⟩ w (by have := hs.size; omega) (by decide) htab
  rwa [show ofR (bytes s) (bytes ⟨#[48]⟩) = errV 19 by unfold ofR errBoth; rw [hs.err, if_pos rfl, str_zero.err, if_pos rfl, str_zero.text, valZ_itoa, if_pos rfl]] at this
theorem gcd_red' (p : Rat) : gcdI p.num (p.den : Int) = 1 := by unfold gcdI; rw [show Int.gcd p.num (p.den : Int) = 1 from p.reduced]; rfl
theorem neq_lists' {s t : ByteArray} (h : s ≠ t) : (s.toList == t.toList) = false := by
  rw [beq_eq_false_iff_ne]; intro e
  exact h (ByteArray.ext (Array.toList_inj.1 (by rw [ByteArray.toList_eq, ByteArray.toList_eq] at e; exact e)))
theorem str_ne {x y : Int} (h : x ≠ y) : str (Lib.itoa x) ≠ str (Lib.itoa y) := fun e => h (itoa_inj (by rw [← bytes_str (Lib.itoa x), e, bytes_str]))
theorem rat_ne {p q : Rat} (h : p ≠ q) : str (ratL p) ≠ str (ratL q) := fun e => h (ratL_inj (by rw [← bytes_str (ratL p), e, bytes_str]))
theorem rret_good (s0 s1 t0 t1 : ByteArray) (x0 x1 y0 y1 : Int) (w : World) (h0 : Str s0 x0) (h1 : Str s1 x1) (k0 : Str t0 y0) (k1 : Str t1 y1)
    (z0 : Sz 300 x0) (z1 : Sz 300 x1) (z2 : Sz 300 y0) (z3 : Sz 300 y1) (hz : ∀ z ∈ [s0, s1, t0, t1], z.size ≤ 300)
    (htab : Lib.TabIs Tryz.prog w "internal/strconv.uint64pow10" .u64 Lib.pow10Tab) :
    Calls Tryz.prog 11 #[.agg #[.string s0, .string s1], .agg #[.string t0, .string t1]] w (Bret (.bool true) w) := by
  have hT := Lib.tabBelow_of_tabIs htab
  have hg : ∀ z ∈ [s0, s1, t0, t1], errOf (bytes z) = 0 := fun z hz => by simp at hz; rcases hz with rfl | rfl | rfl | rfl; exact h0.err; exact h1.err; exact k0.err; exact k1.err
  have CA : ∀ W : World, Below w.heap.size w W → Calls Tryz.prog 26 #[] W (Bret (.bool true) W) := fun W hW => awake02 W (hT.on hW).here
  have OX : x1 ≠ 0 → ∀ W : World, Below w.heap.size w W → Calls Tryz.prog 39 #[.string s0, .string s1] W (Bret (.tuple #[.string (str (ratL (Rat.divInt x0 x1))), .int .i64 0]) W) := fun h W hW => of_rat s0 s1 _ _ W h0 h1 h (hT.on hW).here
  have OY : y1 ≠ 0 → ∀ W : World, Below w.heap.size w W → Calls Tryz.prog 39 #[.string t0, .string t1] W (Bret (.tuple #[.string (str (ratL (Rat.divInt y0 y1))), .int .i64 0]) W) := fun h W hW => of_rat t0 t1 _ _ W k0 k1 h (hT.on hW).here
  by_cases hx : x1 = 0
  · subst hx
    obtain rfl := txt_is_zero h1.text
    have C1 := fun W (hW : Below w.heap.size w W) => of_zero s0 x0 W h0 (hT.on hW).here
    by_cases hy : y1 = 0
    · subst hy
      obtain rfl := txt_is_zero k1.text
      have C2 := fun W (hW : Below w.heap.size w W) => of_zero t0 y0 W k0 (hT.on hW).here
      exact rret_zz s0 t0 w hz hg C1 C2 CA
    · exact rret_zn s0 t0 t1 _ w (eq48 t1 (k1.ne_zero hy)) hz hg C1 (OY hy) CA
  · by_cases hy : y1 = 0
    · subst hy
      obtain rfl := txt_is_zero k1.text
      have C2 := fun W (hW : Below w.heap.size w W) => of_zero t0 y0 W k0 (hT.on hW).here
      exact rret_nz s0 s1 t0 _ w (eq48 s1 (h1.ne_zero hx)) hz hg (OX hx) C2 CA
    · have rz := RZ.divInt z0 z1 hx
      have rx := rstrZ rz (by decide)
      have C1 := OX hx
      have C2 := OY hy
      have hiff := Rat.divInt_eq_divInt_iff (n₁ := x0) (n₂ := y0) hx hy
      have zl := z0.mul z3; have zr := z2.mul z1
      generalize Rat.divInt x0 x1 = A at *
      generalize Rat.divInt y0 y1 = B at *
      have hls : (str (ratL A)).size ≤ 1000000000 := by have := rx.size; omega
      have C3 : ∀ W : World, Below w.heap.size w W → Calls Tryz.prog 27 #[.string (str (ratL (A)))] W (Bret (.tuple #[.string (str (Lib.itoa (A.num))), .int .i64 0]) W) := fun W hW => by
        exact ratNumS _ A W rx hls (hT.on hW).here
      have C4 : ∀ W : World, Below w.heap.size w W → Calls Tryz.prog 28 #[.string (str (ratL (A)))] W (Bret (.tuple #[.string (str (Lib.itoa ((A.den : Int)))), .int .i64 0]) W) := fun W hW => by
        exact ratDenS _ A W rx hls (hT.on hW).here
      have C5 : ∀ W : World, Below w.heap.size w W → Calls Tryz.prog 39 #[.string (str (Lib.itoa (A.num))), .string (str (Lib.itoa ((A.den : Int))))] W (Bret (.tuple #[.string (str (ratL (A))), .int .i64 0]) W) := fun W hW => by
        have := of_rat _ _ _ _ W rx.rs.num rx.rs.den (den_ne A) (hT.on hW).here; rwa [Rat.num_divInt_den] at this
      have C6 : ∀ W : World, Below w.heap.size w W → Calls Tryz.prog 19 #[.string (str (Lib.itoa (A.num))), .string (str (Lib.itoa ((A.den : Int))))] W (Bret (.tuple #[.string ⟨#[49]⟩, .int .i64 0]) W) := fun W hW => by
        have : Calls Tryz.prog 19 #[.string (str (Lib.itoa (A.num))), .string (str (Lib.itoa ((A.den : Int))))] W (Bret (resV (gcdI A.num (A.den : Int))) W) := gcdZ _ _ _ _ W rx.rs.num rx.rs.den (hT.on hW).here; rwa [gcd_red', resV_lit Go.Proofs.YtbadibbdoljjhaaGreatDoor.s1] at this
      have C7 : ∀ W : World, Below w.heap.size w W → Calls Tryz.prog 56 #[.string (str (Lib.itoa ((A.den : Int))))] W (Bret (.tuple #[.int .i64 1, .int .i64 0]) W) := fun W hW => by
        have := bret_same (signS _ _ W rx.rs.den); rwa [show cmpI (A.den : Int) 0 = 1 from cmpI_gt (by have := A.den_pos; omega)] at this
      have C8 : ∀ W : World, Below w.heap.size w W → Calls Tryz.prog 57 #[.string s0, .string t1] W (Bret (.tuple #[.string (str (Lib.itoa (x0 * y1))), .int .i64 0]) W) := fun W hW => by
        have := mulZ _ _ _ _ W h0 k1 (hT.on hW).here; rwa [resV_fits (zl.fits (by decide) (by decide))] at this
      have C9 : ∀ W : World, Below w.heap.size w W → Calls Tryz.prog 57 #[.string t0, .string s1] W (Bret (.tuple #[.string (str (Lib.itoa (y0 * x1))), .int .i64 0]) W) := fun W hW => by
        have := mulZ _ _ _ _ W k0 h1 (hT.on hW).here; rwa [resV_fits (zr.fits (by decide) (by decide))] at this
      by_cases e : A = B
      · have e2 := hiff.1 e
        rw [← e] at C2
        rw [← e2] at C9
        exact rret_eq s0 s1 t0 t1 _ ⟨#[]⟩ _ _ _ w (eq48 s1 (h1.ne_zero hx)) (eq48 t1 (k1.ne_zero hy)) hz hg C1 C2 C3 C4 C5 C6 C7 C8 C9 CA
      · have e2 : x0 * y1 ≠ y0 * x1 := fun k => e (hiff.2 k)
        exact rret_ne s0 s1 t0 t1 _ _ _ _ _ _ w (eq48 s1 (h1.ne_zero hx)) (eq48 t1 (k1.ne_zero hy)) (neq_lists' (rat_ne e)) (neq_lists' (str_ne e2)) hz hg C1 C2 C3 C4 C5 C6 C7 C8 C9 CA

theorem str_sz3 {s : ByteArray} {z : Int} {k : Nat} (h : Str s z) (hk : s.size ≤ k) : Sz k z := by
  have h2 := txt_len h.text
  exact dec_pow (by split at h2 <;> omega)
theorem rret_walk (s0 s1 t0 t1 : ByteArray) (w : World) (h0 : s0.size ≤ 9223372036854775807) (h1 : s1.size ≤ 9223372036854775807) (k0 : t0.size ≤ 9223372036854775807) (k1 : t1.size ≤ 9223372036854775807)
    (htab : Lib.TabIs Tryz.prog w "internal/strconv.uint64pow10" .u64 Lib.pow10Tab) :
    Calls Tryz.prog 11 #[.agg #[.string s0, .string s1], .agg #[.string t0, .string t1]] w fun e w' => e = .returned (.bool true) ∧ Below w.heap.size w w' := by
  cases hb : [s0, s1, t0, t1].all shortB
  · exact rret_bad s0 s1 t0 t1 w (fun x hx => by simp at hx; rcases hx with rfl | rfl | rfl | rfl <;> assumption) hb htab
  · have hall := List.all_eq_true.1 hb
    have hd : ∀ x ∈ [s0, s1, t0, t1], x.size ≤ 300 ∧ errOf (bytes x) = 0 := fun x hx => by
      have := hall x hx
      unfold shortB at this
      rwa [Bool.and_eq_true, decide_eq_true_eq, decide_eq_true_eq] at this
    have ha := hd s0 (by simp); have hb1 := hd s1 (by simp); have hc := hd t0 (by simp); have hdd := hd t1 (by simp)
    have q0 := str_of_err ha.2; have q1 := str_of_err hb1.2; have q2 := str_of_err hc.2; have q3 := str_of_err hdd.2
    exact rret_good s0 s1 t0 t1 _ _ _ _ w q0 q1 q2 q3 (str_sz3 q0 ha.1) (str_sz3 q1 hb1.1) (str_sz3 q2 hc.1) (str_sz3 q3 hdd.1) (fun x hx => (hd x hx).1) htab
end Go.Proofs.YtbadibbdoljjhaaGreatDoor

