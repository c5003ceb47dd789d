import Derived.Test.YtjobmkdaaionlaaGreatDoorCut1

set_option linter.unusedVariables false
namespace Go.Proofs.YtjobmkdaaionlaaGreatDoor
open Go Go.Proofs Go.RowKit
def cellsOf (l : List Nat) : List Value := l.map fun n => Value.int .u32 (n : Nat)
theorem cellsOf_length (l : List Nat) : (cellsOf l).length = l.length := by simp [cellsOf]
theorem cellsOf_get (l : List Nat) (k : Nat) (h : k < l.length) : (cellsOf l)[k]? = some (.int .u32 (l.getD k 0 : Nat)) := by
  simp [cellsOf, h]
theorem cellsOf_append (a b : List Nat) : cellsOf (a ++ b) = cellsOf a ++ cellsOf b := by simp [cellsOf]
theorem row_of_owns {w : World} {base : Nat} {v : Value} {n : Nat} {l : List Nat} (h : w.ownsRow base 156 1 v n (cellsOf l)) :
    ∃ ao c, v = .slice ao l.length c ∧ RowAt w ao c l := by
  obtain ⟨h1, h2⟩ := h
  rw [cellsOf_length] at h1
  have hn : n = l.length := by omega
  subst hn
  rcases h2 with ⟨rfl, h0⟩ | ⟨g, cap, cur, rfl, hb, hg, hle, hm, hs, ht⟩
  · have : l = [] := List.length_eq_zero_iff.1 h0
    subst this
    exact ⟨none, 0, rfl, Nat.le_refl _, by decide, .inl ⟨rfl, fun _ => rfl⟩⟩
  · refine ⟨some ⟨g, 0, none⟩, cap, rfl, hle, by unfold maxLen at hm; omega, .inr ⟨g, 0, rfl, lt_of_block hg, fun k hk => ?_⟩⟩
    rw [Nat.zero_add]
    have e : w.cell? ⟨g, k, none⟩ = cur[k]? := by simp [World.cell?, hg]
    rw [e]
    have h3 := cellsOf_get l k hk
    rw [← ht, List.getElem?_take] at h3
    rw [if_pos (by omega)] at h3
    simpa using h3
theorem infoU32 : (Tryz.prog.info? 156).map (fun i => (i.zero, i.size, i.bytes)) = some (some (.int .u32 0), 1, 4) := by kernel_rfl
theorem of_step (word : Nat) (l : List Nat) (m : Nat) (h : l ++ limbs m = limbs word) (hm : m ≠ 0) : (l ++ [m % 1000000000]) ++ limbs (m / 1000000000) = limbs word := by
  rw [← h, List.append_assoc, limbs_pos hm]; rfl
theorem u64_div (k : Nat) (h : k < 18446744073709551616) : IntKind.u64.wrap ((k : Int) / 1000000000) = ((k / 1000000000 : Nat) : Int) := by
  rw [IntKind.wrap_u64]; omega
set_option maxHeartbeats 1000000 in
theorem of_any (x : Nat) (hx : x < 18446744073709551616) (w : World) :
    Calls Tryz.prog 179 #[.int .u64 x] w (RetN x w) := by
  obtain ⟨i0, hi, hz0, hz1, hz2⟩ := info_parts infoU32
  have hlen : (limbs x).length ≤ 3 := limbs_length_le (by omega)
  have hst := of_step x
  have hst0 : [] ++ limbs x = limbs x := rfl
  have HL := Lib.hid hlen; have HS := Lib.hid hst; have H0 := Lib.hid hst0; clear hlen hst hst0
  have HX := Lib.hid hx; clear hx
  go_enter Tryz.func179, Tryz.ntmps179
  go_wp2_with fail
  go_loopw [0, 3] (fun m v wr => ∃ (l : List Nat) (k : Nat), k < 18446744073709551616 ∧ m = .int .u64 k ∧ l ++ limbs k = limbs x ∧ wr.ownsRow (w.heap.size + 1) 156 1 v l.length (cellsOf l) ∧ Below (w.heap.size + 1) (w.alloc (Obj.cells #[Value.slice none 0 0] 173)) wr) (fun m _ _ => (intOf m).toNat)
  case atStart => exact ⟨[], x, HX.out, rfl, H0.out, World.ownsRow_nil _ _ _ _, Below.refl _ _⟩
  case round =>
    obtain ⟨l, k, hk, rfl, hlk, hown, hbw⟩ := hrel
    have hll : l.length ≤ 3 := by have := congrArg List.length hlk; simp at this; have := HL.out; omega
    have HLK := Lib.hid hlk; have HK := Lib.hid hk; clear hlk hk
    by_cases hk0 : k = 0
    · have hll' : l = limbs x := by have := HLK.out; rwa [hk0, limbs_zero, List.append_nil] at this
      have HLL := Lib.hid hll'; clear hll'
      have hkn : decide (0 < k) = false := by simp; omega
      obtain ⟨ao, c, rfl, -⟩ := row_of_owns hown
      have HO := Lib.hid hown; clear hown hk0 hll
      have cR : wr.cell? ⟨w.heap.size, 0, none⟩ = some (Value.slice none 0 0) := (hbw.cell (p := ⟨w.heap.size, 0, none⟩) (by simp)).trans (by go_cell)
      have fR : wr.frozen? ⟨w.heap.size, 0, none⟩ = false := (hbw.frozen (p := ⟨w.heap.size, 0, none⟩) (by simp)).trans (by go_cell)
      go_wp2
      refine bodyPost_ret (v := .agg #[.slice ao l.length c]) (by simp [results, Tryz.results179, go_sem, cellSet cR]) rfl ?_
      have hown2 := ownsRow_setCell_below HO.out (a := ⟨w.heap.size, 0, none⟩) (by simp) (Value.slice ao l.length c)
      obtain ⟨ao', c', he, hr'⟩ := row_of_owns hown2
      injection he with h1 h2 h3
      subst h1; subst h3
      refine ⟨_, rfl, ⟨ao, c, ?_, ?_⟩, ?_⟩
      · rw [← HLL.out]
      · rw [← HLL.out]; exact hr'
      · exact (((Below.refl _ _).alloc (Nat.le_refl _) _).trans (hbw.mono (by omega))).setCell (p := ⟨w.heap.size, 0, none⟩) (Nat.le_refl _) _
    · have hk1 : 0 < k := by omega
      go_wp2_with (at_builtin; refine wpList_append_own _ rfl _ _ 171 rfl (w.heap.size + 1) 156 i0 (.int .u32 0) 1 4 Tryz.underlying171 hi hz0 hz1 hz2 rfl (by decide) _ _ _ rfl (hown.alloc _) ⟨wr.heap.size, 0, none⟩ 1 1 [.int .u32 ((k : Int) % 1000000000)] rfl rfl ?c1 ?c2 ?c3 ?c4 ?c5 ?_)
      case c1 => intro j u hj; match j, hj with | 0, hj => (simp at hj; subst hj; simp [Addr.add])
      case c2 => intro u hu; simp at hu; subst hu; rfl
      case c3 => unfold maxLen; omega
      case c4 => omega
      case c5 => have := hbw.size; simp at this ⊢; omega
      intro v' w1 hown' hgrow _
      go_wp2
      go_roundw
      case rel =>
        refine ⟨l ++ [k % 1000000000], k / 1000000000, by have := HK.out; omega, by rw [u64_div k HK.out], of_step x l k HLK.out hk0, ?_, ?_⟩
        · rw [cellsOf_append, List.length_append]; exact hown'
        · exact hbw.trans (((Below.refl _ _).alloc (by have := hbw.size; simp at this; omega) _).grown hgrow (by have := hbw.size; simp at this ⊢; omega) (fun k hk => ((hown.lt k hk)).1))
      case measure => simp only [intOf]; rw [u64_div k HK.out]; omega
end Go.Proofs.YtjobmkdaaionlaaGreatDoor

namespace Go.Proofs.YtjobmkdaaionlaaGreatDoor
theorem val_take_getD (l : List Nat) (i : Nat) : val (l.take (i + 1)) = val (l.take i) + l.getD i 0 * 1000000000 ^ i := by
  by_cases h : i < l.length
  · rw [val_take_succ l i h, getD_lt l i h]
  · rw [getD_ge l i (by omega), List.take_of_length_le (by omega), List.take_of_length_le (by omega)]; simp
theorem take_set (l : List Nat) (i v : Nat) : (l.set i v).take i = l.take i := by
  rw [List.take_set_of_le (Nat.le_refl _)]
theorem val_set_take (l : List Nat) (i v : Nat) (h : i < l.length) : val ((l.set i v).take (i + 1)) = val (l.take i) + v * 1000000000 ^ i := by
  rw [val_take_getD, take_set, getD_lt _ _ (by simpa using h), List.getElem_set_self]
structure AddInv (x y s : List Nat) (n i c : Nat) : Prop where
  len : s.length = n + 1
  small : Small s
  carry : c ≤ 1
  eq : val (s.take i) + c * 1000000000 ^ i = val (x.take i) + val (y.take i)
theorem AddInv.start (x y : List Nat) (n : Nat) : AddInv x y (List.replicate (n + 1) 0) n 0 0 :=
  ⟨by simp, Small.replicate _, by omega, by simp [val]⟩
theorem AddInv.step {x y s : List Nat} {n i c : Nat} (h : AddInv x y s n i c) (hi : i < n) (hx : Small x) (hy : Small y) :
    AddInv x y (s.set i ((x.getD i 0 + c + y.getD i 0) % 1000000000)) n (i + 1) ((x.getD i 0 + c + y.getD i 0) / 1000000000) := by
  have h1 := hx.getD i; have h2 := hy.getD i; have h3 := h.carry
  refine ⟨by simp [h.len], h.small.set _ _ (by omega), by omega, ?_⟩
  rw [val_set_take _ _ _ (by rw [h.len]; omega), val_take_getD, val_take_getD]
  have h4 := h.eq
  have h5 := Nat.div_add_mod (x.getD i 0 + c + y.getD i 0) 1000000000
  generalize (x.getD i 0 + c + y.getD i 0) / 1000000000 = q at *
  generalize (x.getD i 0 + c + y.getD i 0) % 1000000000 = r at *
  rw [Nat.pow_succ]
  generalize 1000000000 ^ i = p at *
  have : r * p + q * (p * 1000000000) = (1000000000 * q + r) * p := by grind
  have e2 : (x.getD i 0 + c + y.getD i 0) * p = x.getD i 0 * p + c * p + y.getD i 0 * p := by grind
  rw [h5, e2] at this
  omega
theorem AddInv.done {x y s : List Nat} {n c : Nat} (h : AddInv x y s n n c) (hx : x.length = n) (hy : y.length ≤ n) :
    Small (s.set n c) ∧ (s.set n c).length = n + 1 ∧ val (s.set n c) = val x + val y := by
  have h3 := h.carry
  refine ⟨h.small.set _ _ (by omega), by simp [h.len], ?_⟩
  have e : (s.set n c).take (n + 1) = s.set n c := List.take_of_length_le (by simp [h.len])
  rw [← e, val_set_take _ _ _ (by rw [h.len]; omega), h.eq, List.take_of_length_le (by omega), List.take_of_length_le (by omega)]
end Go.Proofs.YtjobmkdaaionlaaGreatDoor

namespace Go.Proofs.YtjobmkdaaionlaaGreatDoor
def chunks (l : List UInt8) : List Nat :=
  if h : l = [] then [] else dec (l.drop (l.length - 9)) :: chunks (l.take (l.length - 9))
termination_by l.length
decreasing_by
  have : 0 < l.length := List.length_pos_iff.2 h
  simp; omega
theorem chunks_nil : chunks [] = [] := by rw [chunks]; rfl
theorem chunks_cons {l : List UInt8} (h : l ≠ []) : chunks l = dec (l.drop (l.length - 9)) :: chunks (l.take (l.length - 9)) := by rw [chunks, dif_neg h]
theorem chunks_facts : ∀ (n : Nat) (l : List UInt8), l.length = n → AllDig l → Small (chunks l) ∧ val (chunks l) = dec l ∧ (chunks l).length * 9 ≤ l.length + 8 := by
  intro n
  induction n using Nat.strongRecOn with
  | _ n ih =>
    intro l hl hd
    by_cases h : l = []
    · subst h; rw [chunks_nil]; exact ⟨Small.nil, rfl, by simp⟩
    · have hp : 0 < l.length := List.length_pos_iff.2 h
      rw [chunks_cons h]
      have hlt : (l.take (l.length - 9)).length < n := by simp; omega
      obtain ⟨h1, h2, h3⟩ := ih _ hlt _ rfl (hd.take _)
      have hdl := dec_lt (hd.drop (l.length - 9))
      have hdn : (l.drop (l.length - 9)).length ≤ 9 := by simp; omega
      have h9 : 10 ^ (l.drop (l.length - 9)).length ≤ 10 ^ 9 := Nat.pow_le_pow_right (by decide) hdn
      refine ⟨Small.cons (by omega) h1, ?_, ?_⟩
      · rw [val_cons, h2]
        have e : dec l = dec (l.take (l.length - 9)) * 10 ^ (l.drop (l.length - 9)).length + dec (l.drop (l.length - 9)) := by rw [← dec_append, List.take_append_drop]
        by_cases h10 : 9 ≤ l.length
        · have : (l.drop (l.length - 9)).length = 9 := by simp; omega
          rw [this] at e
          omega
        · have ht : l.take (l.length - 9) = [] := by rw [show l.length - 9 = 0 by omega, List.take_zero]
          rw [ht] at e ⊢
          simp [dec] at e ⊢
          exact e.symm
      · simp only [List.length_cons]
        simp only [List.length_take] at h3
        omega
theorem chunks_step (l : List UInt8) (e : Nat) (he : 0 < e) (hl : e ≤ l.length) : chunks (l.take e) = dec ((l.drop (e - 9)).take (e - (e - 9))) :: chunks (l.take (e - 9)) := by
  have hne : l.take e ≠ [] := by
    intro h
    have h1 : (l.take e).length = e := by rw [List.length_take]; omega
    rw [h] at h1
    simp at h1
    omega
  rw [chunks_cons hne]
  have hlen : (l.take e).length = e := by simp; omega
  rw [hlen, List.take_take, Nat.min_eq_left (by omega)]
  congr 1
  rw [List.drop_take]
end Go.Proofs.YtjobmkdaaionlaaGreatDoor
