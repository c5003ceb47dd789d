import Derived.RangeFuncBox
import Derived.Laws.DeepStrings4
import Derived.Lib.IndexBytes
import Derived.RangeFuncLeaves
import Derived.Shelf.Abstract
import Derived.OwnWalkIn
import Derived.TacticsInMore
import Derived.LoopNIn
import Derived.LoopIn
import Derived.Maps.AppendAt
import Derived.Test.YtmnbjkbkjmgmkaaGreatDoorCut1

set_option linter.unusedVariables false
set_option linter.unusedSimpArgs false
set_option linter.unusedVariables false
namespace Go.Proofs.YtmnbjkbkjmgmkaaGreatDoor
open Go Go.Proofs Go.RowKit Go.Shelf
attribute [local go_sem] Oper.semAt_some
theorem slice_window (s : ByteArray) (k : Nat) (hk : k ≤ s.size) (h0 : 0 < k) (W : World) :
    (Instr.slice 9 (.string s) (some (.int .i64 (if (9 : Nat) < k then (k : Int) - 9 else 0))) (some (.int .i64 (k : Int))) none).run Tryz.prog W = .ok (.string (s.extract (k - 9) k)) W := by
  rw [run_slice_string_if (P := Tryz.prog) W _ s .i64 .i64 _ _ Tryz.underlying9, if_pos ⟨by omega, by omega⟩, if_pos (by split <;> omega)]
  have e : (if (9 : Nat) < k then (k : Int) - 9 else 0).toNat = k - 9 := by split <;> omega
  rw [e, Int.toNat_natCast]
def KBlk (b : Nat) (A B : World) : Prop := B.heap[b]? = A.heap[b]?
set_option maxRecDepth 100000 in
set_option maxHeartbeats 1000000 in
theorem iter_in (n : Nat) (hn : 1 ≤ n) (l Bn : Nat) (s : ByteArray) (hs : s.size ≤ 9223372036854775807) (hd : AllDig (bytes s)) (J Jx : List Nat → World → Prop)
    (hY : ∀ pre x W, J pre W → pre.length < (chunks (bytes s)).length → YieldAt Fence.wide (n - 1) Tryz.prog l #[.int .u32 ((x : Nat) : Int)] W fun e W' =>
      (e = .returned (.bool true) ∧ J (pre ++ [x]) W' ∧ KBlk Bn W W') ∨ (e = .returned (.bool false) ∧ Jx (pre ++ [x]) W'))
    (W : World) (hcell : W.cell? ⟨Bn, 0, none⟩ = some (.string s)) (h0 : J [] W) :
    CallsIn Fence.wide n Tryz.prog 125 #[.func (.yield l) #[] #[], .pointer (some ⟨Bn, 0, none⟩)] W fun e W' => (∃ v, e = .returned v) ∧
      ((∃ ys, ys = chunks (bytes s) ∧ J ys W') ∨ (∃ pre, pre <+: chunks (bytes s) ∧ Jx pre W')) := by
  refine callsIn_of_wp Tryz.func125 rfl trivial ?_ rfl
  simp only [Tryz.ntmps125, List.size_toArray, List.length_cons, List.length_nil, Nat.reduceAdd, Nat.reduceSub, Array.replicate_succ, Array.replicate_zero, List.push_toArray, List.append_toArray, List.nil_append, List.cons_append]
  gi_wp2
  gi_loopw [3] (fun p wr => ∃ (e : Int) (pre rest : List Nat), -8 ≤ e ∧ e ≤ s.size ∧ p = .int .i64 e ∧ chunks (bytes s) = pre ++ rest ∧ rest = chunks ((bytes s).take e.toNat) ∧ J pre wr ∧ wr.cell? ⟨Bn, 0, none⟩ = some (.string s))
    (fun p _ => (intOf p).toNat)
  case atStart => exact ⟨s.size, [], chunks (bytes s), by omega, by omega, rfl, rfl, by rw [Int.toNat_natCast, List.take_of_length_le (l := bytes s) (i := s.size) (Nat.le_refl s.size)], h0, hcell⟩
  case round =>
    obtain ⟨e, pre, rest, he1, he2, rfl, hx, hr, hJ, hc⟩ := hrel
    by_cases he : 0 < e
    · obtain ⟨k, rfl⟩ := Int.eq_ofNat_of_zero_le (show 0 ≤ e by omega)
      rw [Int.toNat_natCast] at hr
      have hk : k ≤ s.size := by omega
      have hst := chunks_step (bytes s) k (by omega) hk
      have HX := Lib.hid hx; have HR := Lib.hid hr; have HST := Lib.hid hst
      clear hx hr hst
      obtain ⟨z, rest', hz, hrest, hrz⟩ : ∃ (z : Nat) (rest' : List Nat), rest = z :: rest' ∧ rest' = chunks ((bytes s).take (k - 9)) ∧ z = dec (bytes (s.extract (k - 9) k)) := by
        refine ⟨_, _, by rw [HR.out]; exact HST.out, rfl, ?_⟩
        rw [show bytes (s.extract (k - 9) k) = ((bytes s).drop (k - 9)).take (k - (k - 9)) from Lib.extract_data s (k - 9) k]
      have hdz : AllDig (bytes (s.extract (k - 9) k)) := by
        rw [show bytes (s.extract (k - 9) k) = ((bytes s).drop (k - 9)).take (k - (k - 9)) from Lib.extract_data s (k - 9) k]
        exact (hd.drop _).take _
      have hsz : (s.extract (k - 9) k).size ≤ 9 := by rw [ByteArray.size_extract]; omega
      have hplen : pre.length < (chunks (bytes s)).length := by rw [HX.out, hz]; simp
      have hlim := limbOf_any (s.extract (k - 9) k)
      obtain ⟨fn, tmps, assign, body, hy, hR⟩ := hY pre z wr hJ hplen
      have HZ := Lib.hid hz; have HREST := Lib.hid hrest; have HRZ := Lib.hid hrz; have HLIM := Lib.hid hlim; have HDZ := Lib.hid hdz; have HSZ := Lib.hid hsz
      clear hz hrest hrz hlim hdz hsz hplen
      have hsl := slice_window s k hk (by omega)
      have HSL := Lib.hid hsl; clear hsl
      by_cases h9 : 9 < k
      · have hs2 := HSL.out
        rw [if_pos h9] at hs2
        gi_wp2_with fail
        refine ⟨trivial, (callsIn_wide.2 (HLIM.out wr HSZ.out HDZ.out)).mono ?_⟩
        rintro e w' ⟨rfl, rfl⟩
        rw [← HRZ.out]
        gi_wp2
        refine hR.mono ?_
        rintro e W3 (⟨rfl, hJ3, hk3⟩ | ⟨rfl, hJx3⟩)
        · have hc3 : W3.cell? ⟨Bn, 0, none⟩ = some (.string s) := (World.cell?_of_block (w := wr) (a := ⟨Bn, 0, none⟩) hk3).trans hc
          gi_wp2
          go_roundw
          case rel => exact ⟨(k : Int) - 9, pre ++ [z], rest', by omega, by omega, rfl, by rw [HX.out, HZ.out]; simp, by rw [HREST.out, show ((k : Int) - 9).toNat = k - 9 from by omega], hJ3, hc3⟩
          case measure => simp [intOf]; omega
        · gi_wp2
          refine bodyPost_ret (results_none rfl _ _ _) rfl ?_
          exact ⟨⟨_, rfl⟩, .inr ⟨pre ++ [z], ⟨rest', by rw [HX.out, HZ.out]; simp⟩, hJx3⟩⟩
      · have hs2 := HSL.out
        rw [if_neg h9] at hs2
        gi_wp2_with fail
        refine ⟨trivial, (callsIn_wide.2 (HLIM.out wr HSZ.out HDZ.out)).mono ?_⟩
        rintro e w' ⟨rfl, rfl⟩
        rw [← HRZ.out]
        gi_wp2
        refine hR.mono ?_
        rintro e W3 (⟨rfl, hJ3, hk3⟩ | ⟨rfl, hJx3⟩)
        · have hc3 : W3.cell? ⟨Bn, 0, none⟩ = some (.string s) := (World.cell?_of_block (w := wr) (a := ⟨Bn, 0, none⟩) hk3).trans hc
          gi_wp2
          go_roundw
          case rel => exact ⟨(k : Int) - 9, pre ++ [z], rest', by omega, by omega, rfl, by rw [HX.out, HZ.out]; simp, by rw [HREST.out, show ((k : Int) - 9).toNat = k - 9 from by omega], hJ3, hc3⟩
          case measure => simp [intOf]; omega
        · gi_wp2
          refine bodyPost_ret (results_none rfl _ _ _) rfl ?_
          exact ⟨⟨_, rfl⟩, .inr ⟨pre ++ [z], ⟨rest', by rw [HX.out, HZ.out]; simp⟩, hJx3⟩⟩
    · have hrest : rest = [] := by rw [hr, show e.toNat = 0 by omega, List.take_zero, chunks_nil]
      subst hrest
      have HX := Lib.hid hx
      have hd0 : decide (0 < e) = false := by simp; omega
      clear hx hr he
      gi_wp2
      go_end0
      exact ⟨⟨_, rfl⟩, .inl ⟨pre, by rw [HX.out]; simp, hJ⟩⟩
end Go.Proofs.YtmnbjkbkjmgmkaaGreatDoor
