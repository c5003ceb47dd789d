import Derived.Test.YtipnnmbjkpidoaaGreatDoorBase27
import Derived.Test.YtipnnmbjkpidoaaGreatDoorBase21
import Derived.Test.YtipnnmbjkpidoaaGreatDoorBase23
import Derived.Test.YtipnnmbjkpidoaaGreatDoorBase24

set_option linter.unusedVariables false
/-
  Min, Max of bigint; BigintOrders: the walk.
-/
namespace Go.Proofs.YtipnnmbjkpidoaaGreatDoor
open Go Go.Proofs Go.RowKit

/-- A function returns a value, and has turned nothing that lay before. -/
def Bret (v : Value) (w : World) (e : Ending) (w' : World) : Prop := e = .returned v ∧ Below w.heap.size w w'
theorem bret_same {P : Program} {f : FuncId} {args : Array Value} {v : Value} {w : World} (c : Calls P f args w fun e w' => e = .returned v ∧ w' = w) : Calls P f args w (Bret v w) :=
  c.mono fun _ _ h => ⟨h.1, by rw [h.2]; exact Below.refl _ _⟩
theorem bret_below {P : Program} {f : FuncId} {args : Array Value} {v : Value} {w : World} (c : Calls P f args w fun e w' => e = .returned v ∧ Below w.heap.size w w') : Calls P f args w (Bret v w) := c

def pickV (e : Nat) (s : ByteArray) : Value := .tuple #[.string s, .int .i64 (e : Nat)]

theorem min_any (s t : ByteArray) (w : World) (hs : s.size ≤ 9223372036854775807) (ht : t.size ≤ 9223372036854775807) :
    Calls Tryz.prog 32 #[.string s, .string t] w (Bret (.tuple #[.string (if errBoth (bytes s) (bytes t) = 0 then (if ordZ (bytes s) (bytes t) < 0 then s else t) else ⟨#[]⟩), .int .i64 (errBoth (bytes s) (bytes t) : Nat)]) w) := by
  have C1 := fun W => compareZ_any s t W hs ht
  have hc := errBoth_cases (bytes s) (bytes t)
  unfold cmpR at C1
  generalize errBoth (bytes s) (bytes t) = c at *
  generalize ordZ (bytes s) (bytes t) = r at *
  have K1 := Lib.hid C1; clear C1
  rcases hc with rfl | rfl | rfl
  · rw [if_pos rfl] at K1 ⊢
    by_cases h : r < 0
    · rw [if_pos h]
      go_enter Tryz.func32, Tryz.ntmps32
      go_wp2_with (go_at_call 30; refine (K1.out _).mono ?_; rintro e w1 ⟨rfl, rfl⟩; refine Hid.out ?_)
      refine Lib.hid ?_
      go_wp2
      refine bodyPost_ret (by simp [results, Tryz.results32, go_sem]; rfl) rfl ?_
      exact ⟨rfl, Below.refl _ _⟩
    · rw [if_neg h]
      go_enter Tryz.func32, Tryz.ntmps32
      go_wp2_with (go_at_call 30; refine (K1.out _).mono ?_; rintro e w1 ⟨rfl, rfl⟩; refine Hid.out ?_)
      refine Lib.hid ?_
      go_wp2
      refine bodyPost_ret (by simp [results, Tryz.results32, go_sem]; rfl) rfl ?_
      exact ⟨rfl, Below.refl _ _⟩
  all_goals
    rw [if_neg (by decide)] at K1 ⊢
    go_enter Tryz.func32, Tryz.ntmps32
    go_wp2_with (go_at_call 30; refine (K1.out _).mono ?_; rintro e w1 ⟨rfl, rfl⟩; refine Hid.out ?_)
    refine Lib.hid ?_
    go_wp2
    refine bodyPost_ret (by simp [results, Tryz.results32, go_sem]; rfl) rfl ?_
    exact ⟨rfl, Below.refl _ _⟩

theorem max_any (s t : ByteArray) (w : World) (hs : s.size ≤ 9223372036854775807) (ht : t.size ≤ 9223372036854775807) :
    Calls Tryz.prog 33 #[.string s, .string t] w (Bret (.tuple #[.string (if errBoth (bytes s) (bytes t) = 0 then (if 0 < ordZ (bytes s) (bytes t) then s else t) else ⟨#[]⟩), .int .i64 (errBoth (bytes s) (bytes t) : Nat)]) w) := by
  have C1 := fun W => compareZ_any s t W hs ht
  have hc := errBoth_cases (bytes s) (bytes t)
  unfold cmpR at C1
  generalize errBoth (bytes s) (bytes t) = c at *
  generalize ordZ (bytes s) (bytes t) = r at *
  have K1 := Lib.hid C1; clear C1
  rcases hc with rfl | rfl | rfl
  · rw [if_pos rfl] at K1 ⊢
    by_cases h : 0 < r
    · rw [if_pos h]
      go_enter Tryz.func33, Tryz.ntmps33
      go_wp2_with (go_at_call 30; refine (K1.out _).mono ?_; rintro e w1 ⟨rfl, rfl⟩; refine Hid.out ?_)
      refine Lib.hid ?_
      go_wp2
      refine bodyPost_ret (by simp [results, Tryz.results33, go_sem]; rfl) rfl ?_
      exact ⟨rfl, Below.refl _ _⟩
    · rw [if_neg h]
      go_enter Tryz.func33, Tryz.ntmps33
      go_wp2_with (go_at_call 30; refine (K1.out _).mono ?_; rintro e w1 ⟨rfl, rfl⟩; refine Hid.out ?_)
      refine Lib.hid ?_
      go_wp2
      refine bodyPost_ret (by simp [results, Tryz.results33, go_sem]; rfl) rfl ?_
      exact ⟨rfl, Below.refl _ _⟩
  all_goals
    rw [if_neg (by decide)] at K1 ⊢
    go_enter Tryz.func33, Tryz.ntmps33
    go_wp2_with (go_at_call 30; refine (K1.out _).mono ?_; rintro e w1 ⟨rfl, rfl⟩; refine Hid.out ?_)
    refine Lib.hid ?_
    go_wp2
    refine bodyPost_ret (by simp [results, Tryz.results33, go_sem]; rfl) rfl ?_
    exact ⟨rfl, Below.refl _ _⟩

theorem eq_of_ordZ {s t : ByteArray} (he : errBoth (bytes s) (bytes t) = 0) (h : ordZ (bytes s) (bytes t) = 0) : s = t := by
  obtain ⟨h1, h2⟩ := errBoth_zero he
  have e1 := txt_of_canon (canon_of_err h1)
  have e2 := txt_of_canon (canon_of_err h2)
  rw [e1, e2, ordZ_itoa] at h
  have hz : valZ (bytes s) = valZ (bytes t) := by
    unfold cmpI at h
    by_cases a : valZ (bytes s) < valZ (bytes t)
    · rw [if_pos a] at h; cases h
    · rw [if_neg a] at h
      by_cases b : valZ (bytes s) = valZ (bytes t)
      · exact b
      · rw [if_neg b] at h; cases h
  rw [← str_bytes s, ← str_bytes t, e1, e2, hz]
theorem ordL_cases (a b : List UInt8) : ordL a b = -1 ∨ ordL a b = 0 ∨ ordL a b = 1 := by
  unfold ordL
  by_cases h1 : a.length < b.length
  · rw [if_pos h1]; simp
  · rw [if_neg h1]
    by_cases h2 : b.length < a.length
    · rw [if_pos h2]; simp
    · rw [if_neg h2]
      clear h1 h2
      induction a generalizing b with
      | nil => cases b <;> simp [Lib.compareBytes]
      | cons c s ih =>
        cases b with
        | nil => simp [Lib.compareBytes]
        | cons d t =>
          unfold Lib.compareBytes
          by_cases h1 : c < d
          · rw [if_pos h1]; simp
          · rw [if_neg h1]
            by_cases h2 : d < c
            · rw [if_pos h2]; simp
            · rw [if_neg h2]; exact ih t
theorem ordZ_cases (a b : List UInt8) : ordZ a b = -1 ∨ ordZ a b = 0 ∨ ordZ a b = 1 := by
  unfold ordZ
  (repeat' split) <;> first | exact ordL_cases _ _ | simp

set_option maxRecDepth 20000 in
set_option maxHeartbeats 8000000 in
theorem orders_walk (s t : ByteArray) (w : World) (hs : s.size ≤ 9223372036854775807) (ht : t.size ≤ 9223372036854775807)
    (htab : Lib.TabIs Tryz.prog w "internal/strconv.uint64pow10" .u64 Lib.pow10Tab) :
    Calls Tryz.prog 4 #[.string s, .string t] w fun e w' => e = .returned (.bool true) ∧ Below w.heap.size w w' := by
  have hT := Lib.tabBelow_of_tabIs htab
  have B0 : Below w.heap.size w (w.alloc (Obj.cells #[.string s, .string t] 22)) := (Below.refl _ _).alloc (Nat.le_refl _) _
  have C0 : Calls Tryz.prog 16 #[.slice (some ⟨w.heap.size, 0, none⟩) 2 2] (w.alloc (Obj.cells #[.string s, .string t] 22)) fun e w' => e = .returned (.bool ([s, t].all fewB)) ∧ w' = w.alloc (Obj.cells #[.string s, .string t] 22) := few_any [s, t] w.heap.size 2 _ (fun j h => by
    match j, h with
    | 0, _ => show _ = some (Value.string s); go_cell
    | 1, _ => show _ = some (Value.string t); go_cell) (fun u hu => by
    simp at hu
    rcases hu with rfl | rfl <;> omega) (by simp)
  have C5 : ∀ W : World, Below w.heap.size w W → Calls Tryz.prog 17 #[] W (Bret (.bool true) W) := fun W hW => awake_any W (hT.on hW).here
  have K5 := Lib.hid C5; have HB0 := Lib.hid B0
  clear C5 B0 hT htab
  rw [all_two] at C0
  cases hf : fewB s && fewB t
  · rw [hf] at C0
    have K0 := Lib.hid C0; clear C0 hf hs ht
    go_enter Tryz.func4, Tryz.ntmps4
    go_wp2_with (go_at_call 16; refine K0.out.mono ?_; rintro e w0 ⟨rfl, rfl⟩; refine Hid.out ?_)
    have hB0 := HB0.out
    refine Lib.hid ?_
    go_wp2_with (go_at_call 17; refine (K5.out _ hB0).mono ?_; rintro e w1 ⟨rfl, hb1⟩; refine Hid.out ?_)
    have hB1 := Below.chain hB0 hb1; clear hb1 hB0
    refine Lib.hid ?_
    go_wp2
    refine bodyPost_ret (v := .bool true) (by simp [results, Tryz.results4, go_sem]) rfl ?_
    exact ⟨rfl, hB1⟩
  · rw [hf] at C0
    have K0 := Lib.hid C0; clear C0
    have hf2 : s.size ≤ 250 ∧ t.size ≤ 250 := by
      unfold fewB at hf
      simpa using hf
    clear hf
    have C1 : ∀ W : World, Below w.heap.size w W → Calls Tryz.prog 30 #[.string s, .string t] W (Bret (cmpR (bytes s) (bytes t)) W) := fun W _ => bret_same (compareZ_any s t W hs ht)
    have C2 : ∀ W : World, Below w.heap.size w W → Calls Tryz.prog 31 #[.string s, .string t] W (Bret (cmpR (bytes s) (bytes t)) W) := fun W _ => refCompare_any s t W (by omega) (by omega)
    have C3 : ∀ W : World, Below w.heap.size w W → Calls Tryz.prog 32 #[.string s, .string t] W (Bret (.tuple #[.string (if errBoth (bytes s) (bytes t) = 0 then (if ordZ (bytes s) (bytes t) < 0 then s else t) else ⟨#[]⟩), .int .i64 (errBoth (bytes s) (bytes t) : Nat)]) W) := fun W _ => min_any s t W hs ht
    have C4 : ∀ W : World, Below w.heap.size w W → Calls Tryz.prog 33 #[.string s, .string t] W (Bret (.tuple #[.string (if errBoth (bytes s) (bytes t) = 0 then (if 0 < ordZ (bytes s) (bytes t) then s else t) else ⟨#[]⟩), .int .i64 (errBoth (bytes s) (bytes t) : Nat)]) W) := fun W _ => max_any s t W hs ht
    have he := errBoth_cases (bytes s) (bytes t)
    have ho := ordZ_cases (bytes s) (bytes t)
    have heq := @eq_of_ordZ s t
    unfold cmpR at C1 C2
    generalize errBoth (bytes s) (bytes t) = c at *
    generalize ordZ (bytes s) (bytes t) = r at *
    clear hs ht hf2
    rcases he with rfl | rfl | rfl
    · rw [if_pos rfl] at C1 C2 C3 C4
      rcases ho with rfl | rfl | rfl
      case' inl => (rw [if_pos (by decide)] at C3; rw [if_neg (by decide)] at C4)
      case' inr.inl => (rw [if_neg (by decide)] at C3; rw [if_neg (by decide)] at C4; obtain rfl := heq rfl rfl)
      case' inr.inr => (rw [if_neg (by decide)] at C3; rw [if_pos (by decide)] at C4)
      all_goals
        have K1 := Lib.hid C1; have K2 := Lib.hid C2; have K3 := Lib.hid C3; have K4 := Lib.hid C4
        clear C1 C2 C3 C4 heq
        go_enter Tryz.func4, Tryz.ntmps4
        go_wp2_with (go_at_call 16; refine K0.out.mono ?_; rintro e w0 ⟨rfl, rfl⟩; refine Hid.out ?_)
        have hB0 := HB0.out
        refine Lib.hid ?_
        go_wp2_with (go_at_call 30; refine (K1.out _ hB0).mono ?_; rintro e w1 ⟨rfl, hb1⟩; refine Hid.out ?_)
        have hB1 := Below.chain hB0 hb1; clear hb1 hB0
        refine Lib.hid ?_
        go_wp2_with (go_at_call 31; refine (K2.out _ hB1).mono ?_; rintro e w2 ⟨rfl, hb2⟩; refine Hid.out ?_)
        have hB2 := Below.chain hB1 hb2; clear hb2 hB1
        refine Lib.hid ?_
        go_wp2_with (go_at_call 32; refine (K3.out _ hB2).mono ?_; rintro e w3 ⟨rfl, hb3⟩; refine Hid.out ?_)
        have hB3 := Below.chain hB2 hb3; clear hb3 hB2
        refine Lib.hid ?_
        go_wp2_with (go_at_call 33; refine (K4.out _ hB3).mono ?_; rintro e w4 ⟨rfl, hb4⟩; refine Hid.out ?_)
        have hB4 := Below.chain hB3 hb4; clear hb4 hB3
        refine Lib.hid ?_
        go_wp2_with (go_at_call 17; refine (K5.out _ hB4).mono ?_; rintro e w5 ⟨rfl, hb5⟩; refine Hid.out ?_)
        have hB5 := Below.chain hB4 hb5; clear hb5 hB4
        refine Lib.hid ?_
        go_wp2
        refine bodyPost_ret (v := .bool true) (by simp [results, Tryz.results4, go_sem]) rfl ?_
        exact ⟨rfl, hB5⟩
    all_goals
      rw [if_neg (by decide)] at C1 C2 C3 C4
      have K1 := Lib.hid C1; have K2 := Lib.hid C2; have K3 := Lib.hid C3; have K4 := Lib.hid C4
      clear C1 C2 C3 C4 heq ho
      go_enter Tryz.func4, Tryz.ntmps4
      go_wp2_with (go_at_call 16; refine K0.out.mono ?_; rintro e w0 ⟨rfl, rfl⟩; refine Hid.out ?_)
      have hB0 := HB0.out
      refine Lib.hid ?_
      go_wp2_with (go_at_call 30; refine (K1.out _ hB0).mono ?_; rintro e w1 ⟨rfl, hb1⟩; refine Hid.out ?_)
      have hB1 := Below.chain hB0 hb1; clear hb1 hB0
      refine Lib.hid ?_
      go_wp2_with (go_at_call 31; refine (K2.out _ hB1).mono ?_; rintro e w2 ⟨rfl, hb2⟩; refine Hid.out ?_)
      have hB2 := Below.chain hB1 hb2; clear hb2 hB1
      refine Lib.hid ?_
      go_wp2_with (go_at_call 32; refine (K3.out _ hB2).mono ?_; rintro e w3 ⟨rfl, hb3⟩; refine Hid.out ?_)
      have hB3 := Below.chain hB2 hb3; clear hb3 hB2
      refine Lib.hid ?_
      go_wp2_with (go_at_call 33; refine (K4.out _ hB3).mono ?_; rintro e w4 ⟨rfl, hb4⟩; refine Hid.out ?_)
      have hB4 := Below.chain hB3 hb4; clear hb4 hB3
      refine Lib.hid ?_
      go_wp2_with (go_at_call 17; refine (K5.out _ hB4).mono ?_; rintro e w5 ⟨rfl, hb5⟩; refine Hid.out ?_)
      have hB5 := Below.chain hB4 hb5; clear hb5 hB4
      refine Lib.hid ?_
      go_wp2
      refine bodyPost_ret (v := .bool true) (by simp [results, Tryz.results4, go_sem]) rfl ?_
      exact ⟨rfl, hB5⟩
end Go.Proofs.YtipnnmbjkpidoaaGreatDoor
