import Derived.Test.YtipnnmbjkpidoaaGreatDoorProg
import Derived.Tactics
import Derived.Tactics2
import Derived.WalkKit
import Derived.WalkLawsBesides
import Derived.Deep.QuietTactic
import Derived.BigQuiet
import Derived.Lib.Hide
import Derived.Handy
import Derived.Outline
import Derived.KernelRfl
import Derived.Test.YtipnnmbjkpidoaaGreatDoorBase1
import Derived.Lib.Strings

set_option linter.unusedVariables false
/-
  What a number in limbs is in memory; words for the contracts.
-/
namespace Go.Proofs.YtipnnmbjkpidoaaGreatDoor
open Go Go.Proofs Go.RowKit

/-- The limbs l lie in w behind the slice with this address and capacity. -/
def RowAt (w : World) (ao : Option Addr) (c : Nat) (l : List Nat) : Prop :=
  l.length ≤ c ∧ c ≤ 9223372036854775807 ∧ ((l = [] ∧ (ao = none → c = 0)) ∨ ∃ b off, ao = some ⟨b, off, none⟩ ∧ b < w.heap.size ∧ ∀ k, k < l.length → w.cell? ⟨b, off + k, none⟩ = some (.int .u32 (l.getD k 0 : Nat)))

/-- A value of type natural.Number that stands for x. -/
def NumAt (w : World) (v : Value) (x : Nat) : Prop := ∃ ao c, v = .agg #[.slice ao (limbs x).length c] ∧ RowAt w ao c (limbs x)

theorem RowAt.mono {w w' : World} {ao : Option Addr} {c : Nat} {l : List Nat} (h : RowAt w ao c l) (hb : Below w.heap.size w w') : RowAt w' ao c l := by
  obtain ⟨h1, h2, h3⟩ := h
  refine ⟨h1, h2, ?_⟩
  rcases h3 with h3 | ⟨b, off, he, hlt, hc⟩
  · exact .inl h3
  · refine .inr ⟨b, off, he, Nat.lt_of_lt_of_le hlt hb.size, fun k hk => ?_⟩
    rw [hb.cell (p := ⟨b, off + k, none⟩) hlt]; exact hc k hk

theorem NumAt.mono {w w' : World} {v : Value} {x : Nat} (h : NumAt w v x) (hb : Below w.heap.size w w') : NumAt w' v x := by
  obtain ⟨ao, c, he, hr⟩ := h
  exact ⟨ao, c, he, hr.mono hb⟩

theorem Below.chain {a b c : World} (h : Below a.heap.size a b) (k : Below b.heap.size b c) : Below a.heap.size a c :=
  h.trans (k.mono h.size)

theorem ret_int {k : IntKind} {a b : Int} (h : a = b) : Ending.returned (.int k a) = .returned (.int k b) := by rw [h]
theorem ret_bool {a b : Bool} (h : a = b) : Ending.returned (.bool a) = .returned (.bool b) := by rw [h]

/-- The order of two numbers. -/
def cmpN (x y : Nat) : Int := if x < y then -1 else if x = y then 0 else 1
def cmpI (x y : Int) : Int := if x < y then -1 else if x = y then 0 else 1

/-- What a row of limbs gives a walk: its cells by a function that the walk does not open. -/
theorem RowAt.open {w : World} {ao : Option Addr} {c : Nat} {l : List Nat} (h : RowAt w ao c l) (hs : Small l) :
    ∃ d : Nat → Int, (∀ k, k < l.length → d k = (l.getD k 0 : Nat)) ∧ (∀ k, 0 ≤ d k ∧ d k < 1000000000) ∧
      (l = [] ∨ ∃ b off, ao = some ⟨b, off, none⟩ ∧ b < w.heap.size ∧ ∀ k, k < l.length → w.cell? ⟨b, off + k, none⟩ = some (.int .u32 (d k))) := by
  refine ⟨fun k => (l.getD k 0 : Nat), fun k _ => rfl, fun k => ⟨Int.natCast_nonneg _, ?_⟩, h.2.2.imp (fun h => h.1) id⟩
  have := hs.getD k
  show ((l.getD k 0 : Nat) : Int) < 1000000000
  omega

/-- A contract of a function that turns nothing, at a call within a region behind draws: the count of draws goes on. -/
theorem drawsOn {P : Program} {f : FuncId} {args : Array Value} {w : World} {m n : Nat} {v : Value}
    (c : Calls P f args (w.drewN (m + n)) fun e w' => e = .returned v ∧ w.drewN (m + n) = w') :
    Calls P f args (w.drewN (m + n)) fun e w' => e = .returned v ∧ ∃ k, w' = w.drewN (m + k) :=
  c.mono fun _ _ h => ⟨h.1, n, h.2.symm⟩
theorem drawsHere {P : Program} {f : FuncId} {args : Array Value} {w : World} {n : Nat} {v : Value}
    (c : Calls P f args (w.drewN n) fun e w' => e = .returned v ∧ w.drewN n = w') :
    Calls P f args (w.drewN n) fun e w' => e = .returned v ∧ ∃ k, w' = w.drewN k :=
  c.mono fun _ _ h => ⟨h.1, n, h.2.symm⟩

theorem cellSet {w : World} {a : Addr} {u : Value} (h : w.cell? a = some u) (v : Value) : (w.setCell a v).cell? a = some v :=
  World.cell?_setCell_same' _ _ _ (by rw [h]; rfl)

/-- Two boxes that are laid one behind the other. -/
structure Two (w W : World) (v1 v2 : Value) : Prop where
  size : W.heap.size = w.heap.size + 2
  c1 : W.cell? ⟨w.heap.size, 0, none⟩ = some v1
  c2 : W.cell? ⟨w.heap.size + 1, 0, none⟩ = some v2
  f1 : W.frozen? ⟨w.heap.size, 0, none⟩ = false
  f2 : W.frozen? ⟨w.heap.size + 1, 0, none⟩ = false
  below : Below w.heap.size w W
theorem two_new (w : World) (v1 v2 : Value) (t1 t2 : TypeId) : Two w ((w.alloc (Obj.cells #[v1] t1)).alloc (Obj.cells #[v2] t2)) v1 v2 :=
  ⟨by simp, by go_cell, by go_cell, by go_cell, by go_cell, by go_grown⟩

end Go.Proofs.YtipnnmbjkpidoaaGreatDoor

namespace Go.Proofs.YtipnnmbjkpidoaaGreatDoor
open Go Go.Proofs Go.RowKit

/-- Digits, and at least one. -/
def digB (l : List UInt8) : Bool := !l.isEmpty && l.all isDig

def bytes (s : ByteArray) : List UInt8 := s.data.toList
theorem bytes_length (s : ByteArray) : (bytes s).length = s.size := rfl
theorem bytes_get (s : ByteArray) (k : Nat) (h : k < s.size) : (bytes s)[k]'h = s[k] := rfl
/-- A byte of a string as a number. -/
def byteAt (s : ByteArray) (k : Nat) : Nat := ((bytes s).getD k 0).toNat
theorem byteAt_get (s : ByteArray) : ∀ (k : Nat) (h : k < s.size), ((s[k]'h).toNat : Int) = (byteAt s k : Int) := fun k h => by
  unfold byteAt
  rw [List.getD_eq_getElem?_getD, List.getElem?_eq_getElem (by rw [bytes_length]; exact h)]
  rfl

theorem all_take_succ (l : List UInt8) (k : Nat) (h : k < l.length) : (l.take (k + 1)).all isDig = ((l.take k).all isDig && isDig l[k]) := by
  rw [List.take_succ_eq_append_getElem h, List.all_append]; simp

theorem digB_bad (l : List UInt8) (k : Nat) (hb : (l.take (k + 1)).all isDig = false) : digB l = false := by
  have e : l.all isDig = ((l.take (k + 1)).all isDig && (l.drop (k + 1)).all isDig) := by rw [← List.all_append, List.take_append_drop]
  unfold digB
  rw [e, hb]; simp

theorem isDig_byte (s : ByteArray) (k : Nat) (h : k < s.size) : isDig (bytes s)[k] = (decide (48 ≤ byteAt s k) && decide (byteAt s k ≤ 57)) := by
  unfold byteAt isDig
  rw [List.getD_eq_getElem?_getD, List.getElem?_eq_getElem (by rw [bytes_length]; exact h)]
  rfl

set_option maxHeartbeats 1000000 in
theorem allDigits_any (s : ByteArray) (w : World) (hs : s.size ≤ 9223372036854775807) :
    Calls Tryz.prog 176 #[.string s] w fun e w' => e = .returned (.bool (digB (bytes s))) ∧ w = w' := by
  have hnil : s.toList = bytes s := Lib.toList_data s
  have HNIL := Lib.hid hnil
  go_enter Tryz.func176, Tryz.ntmps176
  go_wp2_with fail
  go_loop [6] (fun iv => ∃ k : Nat, k ≤ s.size ∧ iv = .int .i64 k ∧ ((bytes s).take k).all isDig = true) (fun iv => s.size - (intOf iv).toNat)
  case atStart => exact ⟨0, Nat.zero_le _, rfl, rfl⟩
  case round =>
    obtain ⟨k, hk, rfl, hall⟩ := hrel
    by_cases hlt : k < s.size
    · have hgk := byteAt_get s k hlt
      have h1 := all_take_succ (bytes s) k hlt
      rw [isDig_byte s k hlt, hall] at h1
      have H1 := Lib.hid h1; have HALL := Lib.hid hall
      clear h1 hall hnil
      generalize byteAt s k = b at *
      by_cases hd : 48 ≤ b ∧ b ≤ 57
      · obtain ⟨hd1, hd2⟩ := hd
        have e1 : (List.take (k + 1) (bytes s)).all isDig = true := by rw [H1.out]; simp [hd1, hd2]
        have E1 := Lib.hid e1; clear e1
        go_wp2
        go_round
        case rel => exact ⟨k + 1, by omega, by go_num, E1.out⟩
        case measure => simp [intOf]; omega
      · have e1 : digB (bytes s) = false := digB_bad (bytes s) k (by rw [H1.out]; simp; omega)
        have E1 := Lib.hid e1; clear e1
        go_wp2
        all_goals first
          | (exfalso; omega)
          | (go_ret; exact ⟨ret_bool E1.out.symm, rfl⟩)
    · have hkn : k = s.size := by omega
      subst hkn
      rw [List.take_of_length_le (l := bytes s) (i := s.size) (Nat.le_refl s.size)] at hall
      have HALL := Lib.hid hall; clear hall hnil
      go_wp2
      go_ret
      refine ⟨ret_bool ?_, rfl⟩
      rw [HNIL.out]
      unfold digB
      rw [HALL.out, Bool.and_true]
theorem dec_take_succ (l : List UInt8) (k : Nat) (h : k < l.length) : dec (l.take (k + 1)) = 10 * dec (l.take k) + (l[k].toNat - 48) := by
  rw [List.take_succ_eq_append_getElem h, dec_snoc]

theorem byteAt_eq (s : ByteArray) (k : Nat) (h : k < s.size) : ((bytes s)[k]'h).toNat = byteAt s k := by
  unfold byteAt
  rw [List.getD_eq_getElem?_getD, List.getElem?_eq_getElem (by rw [bytes_length]; exact h)]
  rfl

theorem dec_small (l : List UInt8) (k : Nat) (hd : AllDig l) (hk : k < 9) : dec (l.take k) < 100000000 := by
  have h1 := dec_lt (hd.take k)
  have h2 : 10 ^ (l.take k).length ≤ 10 ^ 8 := Nat.pow_le_pow_right (by decide) (by simp; omega)
  omega

set_option maxHeartbeats 1000000 in
theorem limbOf_any (s : ByteArray) (w : World) (hs : s.size ≤ 9) (hd : AllDig (bytes s)) :
    Calls Tryz.prog 198 #[.string s] w fun e w' => e = .returned (.int .u32 (dec (bytes s) : Nat)) ∧ w = w' := by
  have HD := Lib.hid hd; clear hd
  have hs2 : s.size ≤ 9223372036854775807 := by omega
  go_enter Tryz.func198, Tryz.ntmps198
  go_wp2_with fail
  go_loop [3, 7] (fun lv iv => ∃ k : Nat, k ≤ s.size ∧ iv = .int .i64 k ∧ lv = .int .u32 (dec ((bytes s).take k) : Nat)) (fun _ iv => s.size - (intOf iv).toNat)
  case atStart => exact ⟨0, Nat.zero_le _, rfl, rfl⟩
  case round =>
    obtain ⟨k, hk, rfl, rfl⟩ := hrel
    by_cases hlt : k < s.size
    · have hgk := byteAt_get s k hlt
      have h1 := dec_take_succ (bytes s) k hlt
      rw [byteAt_eq s k hlt] at h1
      have h2 := isDig_iff.1 (HD.out _ (List.getElem_mem (l := bytes s) hlt))
      rw [byteAt_eq s k hlt] at h2
      have h3 := dec_small (bytes s) k HD.out (by omega)
      obtain ⟨h4, h5⟩ := h2
      have H1 := Lib.hid h1
      clear h1
      generalize byteAt s k = b at *
      generalize dec ((bytes s).take k) = m at *
      go_wp2
      go_round
      case rel => exact ⟨k + 1, by omega, by go_num, by rw [H1.out]; go_num⟩
      case measure => simp [intOf]; omega
    · have hkn : k = s.size := by omega
      subst hkn
      rw [List.take_of_length_le (l := bytes s) (i := s.size) (Nat.le_refl s.size)]
      go_wp2
      go_ret
      exact ⟨rfl, rfl⟩
end Go.Proofs.YtipnnmbjkpidoaaGreatDoor

namespace Go.Proofs.YtipnnmbjkpidoaaGreatDoor
open Go Go.Proofs Go.RowKit

theorem isZero_any (x : Nat) (v : Value) (w : World) (hv : NumAt w v x) :
    Calls Tryz.prog 150 #[v] w fun e w' => e = .returned (.bool (decide (x = 0))) ∧ Below w.heap.size w w' := by
  obtain ⟨ao, c, rfl, h1, h2, -⟩ := hv
  have hx : ((((limbs x).length : Nat) : Int) == 0) = decide (x = 0) := by
    rw [Bool.eq_iff_iff]; simp [limbs_nil_iff]
  generalize (limbs x).length = n at *
  have HX := Lib.hid hx; clear hx
  have h3 : n ≤ 9223372036854775807 := by omega
  go_enter Tryz.func150, Tryz.ntmps150
  go_wp2
  go_ret
  exact ⟨ret_bool HX.out, by go_grown⟩

theorem direction_any (b : Bool) (w : World) :
    Calls Tryz.prog 191 #[.bool b] w fun e w' => e = .returned (.int .i64 (if b then -1 else 1)) ∧ w = w' := by
  cases b
  all_goals
    go_enter Tryz.func191, Tryz.ntmps191
    go_wp2
    go_ret
    exact ⟨rfl, rfl⟩
end Go.Proofs.YtipnnmbjkpidoaaGreatDoor

namespace Go.Proofs.YtipnnmbjkpidoaaGreatDoor
open Go Go.Proofs Go.RowKit

theorem cmp_len (x y : Nat) (h : (limbs x).length ≠ (limbs y).length) : (if (limbs x).length < (limbs y).length then (-1 : Int) else 1) = cmpN x y := by
  unfold cmpN
  by_cases hl : (limbs x).length < (limbs y).length
  · rw [if_pos hl, if_pos (lt_of_limbs_length hl)]
  · have := lt_of_limbs_length (m := y) (n := x) (by omega)
    rw [if_neg hl, if_neg (by omega), if_neg (by omega)]

set_option maxHeartbeats 1000000 in
theorem compare_len (x y : Nat) (vx vy : Value) (w : World) (hx : NumAt w vx x) (hy : NumAt w vy y) (hne : (limbs x).length ≠ (limbs y).length) :
    Calls Tryz.prog 168 #[vx, vy] w fun e w' => e = .returned (.int .i64 (cmpN x y)) ∧ Below w.heap.size w w' := by
  obtain ⟨ao, c, rfl, h1, h2, -⟩ := hx
  obtain ⟨ap, d, rfl, h3, h4, -⟩ := hy
  have hr := cmp_len x y hne
  have ht : (((limbs x).length : Int) != ((limbs y).length : Int)) = true := by simp; omega
  generalize (limbs x).length = m at *
  generalize (limbs y).length = n at *
  have HR := Lib.hid hr; clear hr
  have h5 : m ≤ 9223372036854775807 := by omega
  have h6 : n ≤ 9223372036854775807 := by omega
  clear h1 h2 h3 h4 hne
  by_cases hl : m < n
  all_goals
    go_enter Tryz.func168, Tryz.ntmps168
    go_wp2_with (go_at_call 191; refine (direction_any _ _).mono ?_; rintro e w' ⟨rfl, rfl⟩)
    go_ret
    refine ⟨ret_int ?_, by go_grown⟩
    rw [← HR.out]; simp [hl]
end Go.Proofs.YtipnnmbjkpidoaaGreatDoor
