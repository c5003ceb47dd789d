import Derived.Test.YtipnnmbjkpidoaaGreatDoorBase1

set_option linter.unusedVariables false
namespace Go.Proofs.YtipnnmbjkpidoaaGreatDoor
open Go Go.Proofs Go.RowKit

theorem cmp_eq (x y : Nat) (he : (limbs x).length = (limbs y).length) (h : ∀ j, j < (limbs x).length → (limbs x).getD j 0 = (limbs y).getD j 0) : cmpN x y = 0 := by
  have : limbs x = limbs y := by
    refine List.ext_getElem he fun j h1 h2 => ?_
    have := h j h1
    rwa [getD_lt _ _ h1, getD_lt _ _ h2] at this
  have e : x = y := by rw [← val_limbs x, this, val_limbs]
  subst e; simp [cmpN]

theorem cmp_top (x y : Nat) (he : (limbs x).length = (limbs y).length) (i : Nat) (hi : i < (limbs x).length)
    (h : ∀ j, i < j → j < (limbs x).length → (limbs x).getD j 0 = (limbs y).getD j 0) (hne : (limbs x).getD i 0 ≠ (limbs y).getD i 0) :
    cmpN x y = if (limbs x).getD i 0 < (limbs y).getD i 0 then -1 else 1 := by
  have hd : (limbs x).drop (i + 1) = (limbs y).drop (i + 1) := by
    refine List.ext_getElem (by simp [he]) fun j h1 h2 => ?_
    simp only [List.getElem_drop]
    have h3 : i + 1 + j < (limbs x).length := by simp at h1; omega
    have := h (i + 1 + j) (by omega) h3
    rwa [getD_lt _ _ h3, getD_lt _ _ (by omega)] at this
  rw [getD_lt _ _ hi, getD_lt _ _ (by omega)] at *
  unfold cmpN
  by_cases hl : (limbs x)[i] < (limbs y)[i]
  · have := val_lt_of_top (limbs_small x) he i hi hd hl
    rw [val_limbs, val_limbs] at this
    rw [if_pos this, if_pos hl]
  · have := val_lt_of_top (limbs_small y) he.symm i (by omega) hd.symm (by omega)
    rw [val_limbs, val_limbs] at this
    rw [if_neg (by omega), if_neg (by omega), if_neg hl]

set_option maxHeartbeats 2000000 in
theorem compare_loop (x y : Nat) (vx vy : Value) (w : World) (hx : NumAt w vx x) (hy : NumAt w vy y) (he : (limbs x).length = (limbs y).length) (h0 : limbs x ≠ []) :
    Calls Tryz.prog 168 #[vx, vy] w fun e w' => e = .returned (.int .i64 (cmpN x y)) ∧ Below w.heap.size w w' := by
  obtain ⟨ao, c, rfl, hx⟩ := hx
  obtain ⟨ap, c', rfl, hy⟩ := hy
  have h0' : limbs y ≠ [] := by intro h; rw [h] at he; simp at he; exact h0 he
  obtain ⟨d, hd, hdb, hxc⟩ := hx.open (limbs_small x)
  obtain ⟨f, hf, hfb, hyc⟩ := hy.open (limbs_small y)
  have h1 := hx.1; have h2 := hx.2.1
  have hz := cmp_eq x y he
  have ht := cmp_top x y he
  obtain ⟨b, off, rfl, hb, hxc⟩ := hxc.resolve_left h0
  obtain ⟨b', off', rfl, hb', hyc⟩ := hyc.resolve_left h0'
  rw [← he] at hf hyc ⊢
  have hZ : (∀ j, j < (limbs x).length → d j = f j) → cmpN x y = 0 := fun h => hz fun j hj => by
    have := h j hj; rw [hd j hj, hf j hj] at this; exact Int.ofNat.inj this
  have hT : ∀ i, i < (limbs x).length → (∀ j, i < j → j < (limbs x).length → d j = f j) → d i ≠ f i → cmpN x y = if d i < f i then -1 else 1 := fun i hi h hne => by
    rw [ht i hi (fun j h1 h2 => by have := h j h1 h2; rw [hd j h2, hf j h2] at this; exact Int.ofNat.inj this) (fun e => hne (by rw [hd i hi, hf i hi, e])), hd i hi, hf i hi]
    simp only [Int.ofNat_lt]
  generalize (limbs x).length = n at *
  have h5 : n ≤ 9223372036854775807 := by omega
  generalize cmpN x y = r at *
  have HZ := Lib.hid hZ; have HT := Lib.hid hT; have HXC := Lib.hid hxc; have HYC := Lib.hid hyc
  clear hd hf hx hy he hz ht hxc hyc hdb hfb h1 h2 h0 h0' hZ hT
  go_enter Tryz.func168, Tryz.ntmps168
  go_wp2_with fail
  have A := two_new w (Value.slice (some { block := b, off := off }) n c) (Value.slice (some { block := b', off := off' }) n c') 79 79
  generalize hW : (w.alloc (Obj.cells #[Value.slice (some { block := b, off := off }) n c] 79)).alloc (Obj.cells #[Value.slice (some { block := b', off := off' }) n c'] 79) = W0 at A ⊢
  clear hW
  go_loopw [5] (fun i wr => ∃ k : Int, -1 ≤ k ∧ k < n ∧ i = .int .i64 k ∧ (∀ j : Nat, k < j → j < n → d j = f j) ∧ Below (w.heap.size + 2) W0 wr) (fun i _ => (intOf i + 1).toNat)
  case atStart => exact ⟨(n : Int) - 1, by omega, by omega, rfl, fun j h1 h2 => by omega, Below.refl _ _⟩
  case round =>
    obtain ⟨k, hk1, hk2, rfl, heq, hbw⟩ := hrel
    have HEQ := Lib.hid heq; clear heq
    have c1 : wr.cell? ⟨w.heap.size, 0, none⟩ = some (Value.slice (some { block := b, off := off }) n c) := (hbw.cell (p := ⟨w.heap.size, 0, none⟩) (by simp)).trans A.c1
    have c2 : wr.cell? ⟨w.heap.size + 1, 0, none⟩ = some (Value.slice (some { block := b', off := off' }) n c') := (hbw.cell (p := ⟨w.heap.size + 1, 0, none⟩) (by simp)).trans A.c2
    by_cases hk : k = -1
    · subst hk
      go_wp2
      go_ret
      exact ⟨ret_int (HZ.out fun j hj => HEQ.out j (by omega) hj).symm, A.below.trans (hbw.mono (by omega))⟩
    · obtain ⟨j, rfl⟩ := Int.eq_ofNat_of_zero_le (show 0 ≤ k by omega)
      have hj : j < n := by omega
      have c3 : wr.cell? ⟨b, off + j, none⟩ = some (.int .u32 (d j)) := ((hbw.cell (p := ⟨b, off + j, none⟩) (by simp; omega)).trans (A.below.cell (p := ⟨b, off + j, none⟩) hb)).trans (HXC.out j hj)
      have c4 : wr.cell? ⟨b', off' + j, none⟩ = some (.int .u32 (f j)) := ((hbw.cell (p := ⟨b', off' + j, none⟩) (by simp; omega)).trans (A.below.cell (p := ⟨b', off' + j, none⟩) hb')).trans (HYC.out j hj)
      by_cases hdf : d j = f j
      · have hb1 : (d j != f j) = false := by simp [hdf]
        have HDF := Lib.hid hdf; clear hdf
        go_wp2
        go_quiet (fail)
        go_wp2
        go_roundw
        case rel => exact ⟨(j : Int) - 1, by omega, by omega, rfl, fun i h1 h2 => by
          by_cases e : i = j
          · rw [e]; exact HDF.out
          · exact HEQ.out i (by omega) h2, hbw.trans (below_drewN (Below.refl _ _) _)⟩
        case measure => simp [intOf]
      · have hb1 : (d j != f j) = true := by simp [hdf]
        have hr := HT.out j hj (fun i h1 h2 => HEQ.out i (by omega) h2) hdf
        have HR := Lib.hid hr; clear hr hdf
        by_cases hlt : d j < f j
        · have hdl : decide (d j < f j) = true := by simp [hlt]
          go_wp2
          go_quiet (fail)
          go_wp2
          go_quiet ((go_at_call 191; exact drawsOn (direction_any _ _)))
          go_wp2
          go_ret
          refine ⟨ret_int ?_, (A.below.trans (hbw.mono (by omega))).trans (below_drewN (below_drewN (Below.refl _ _) _) _)⟩
          rw [HR.out, if_pos hlt]
        · have hdl : decide (d j < f j) = false := by simp [hlt]
          go_wp2
          go_quiet (fail)
          go_wp2
          go_quiet ((go_at_call 191; exact drawsOn (direction_any _ _)))
          go_wp2
          go_ret
          refine ⟨ret_int ?_, (A.below.trans (hbw.mono (by omega))).trans (below_drewN (Below.refl _ _) _)⟩
          rw [HR.out, if_neg (by omega)]

theorem compare_nil (ao ap : Option Addr) (c c' : Nat) (w : World) :
    Calls Tryz.prog 168 #[.agg #[.slice ao 0 c], .agg #[.slice ap 0 c']] w fun e w' => e = .returned (.int .i64 0) ∧ Below w.heap.size w w' := by
  go_enter Tryz.func168, Tryz.ntmps168
  go_wp2_with fail
  go_rounds 1
  go_ret
  exact ⟨rfl, by go_grown⟩

theorem compare_any (x y : Nat) (vx vy : Value) (w : World) (hx : NumAt w vx x) (hy : NumAt w vy y) :
    Calls Tryz.prog 168 #[vx, vy] w fun e w' => e = .returned (.int .i64 (cmpN x y)) ∧ Below w.heap.size w w' := by
  by_cases he : (limbs x).length = (limbs y).length
  · by_cases h0 : limbs x = []
    · obtain ⟨ao, c, rfl, -⟩ := hx
      obtain ⟨ap, c', rfl, -⟩ := hy
      have ex := limbs_nil_iff.1 h0
      have hy0 : limbs y = [] := by rw [h0] at he; exact List.length_eq_zero_iff.1 he.symm
      have ey := limbs_nil_iff.1 hy0
      have e0 : cmpN x y = 0 := by subst ex; subst ey; rfl
      rw [e0, hy0, h0]
      exact compare_nil ao ap c c' w
    · exact compare_loop x y vx vy w hx hy he h0
  · exact compare_len x y vx vy w hx hy he
end Go.Proofs.YtipnnmbjkpidoaaGreatDoor

namespace Go.Proofs.YtipnnmbjkpidoaaGreatDoor
open Go Go.Proofs Go.RowKit

/-- The number of limbs when zeros at the end are left out. -/
def keep : List Nat → Nat
  | [] => 0
  | x :: xs => if keep xs = 0 ∧ x = 0 then 0 else keep xs + 1

theorem keep_le (l : List Nat) : keep l ≤ l.length := by
  induction l with
  | nil => exact Nat.le_refl _
  | cons x xs ih => simp only [keep, List.length_cons]; split <;> omega

theorem take_keep {l : List Nat} (hs : Small l) : l.take (keep l) = limbs (val l) := by
  induction l with
  | nil => rw [val_nil, limbs_zero]; rfl
  | cons x xs ih =>
    have h1 := hs.head
    have h2 := ih hs.tail
    have h3 : keep xs = 0 → val xs = 0 := fun h => by
      rw [h, List.take_zero] at h2; exact limbs_nil_iff.1 h2.symm
    have h4 : val xs = 0 → keep xs = 0 := fun h => by
      rw [h, limbs_zero] at h2
      have := congrArg List.length h2
      simp at this
      rcases this with h | h
      · exact h
      · rw [h]; rfl
    simp only [keep, val]
    by_cases h : keep xs = 0 ∧ x = 0
    · rw [if_pos h, h3 h.1, h.2, List.take_zero]; simp [limbs_zero]
    · rw [if_neg h, List.take_succ_cons, h2]
      have hne : x + 1000000000 * val xs ≠ 0 := by
        intro e
        exact h ⟨h4 (by omega), by omega⟩
      rw [limbs_pos hne]
      have e1 : (x + 1000000000 * val xs) % 1000000000 = x := by omega
      have e2 : (x + 1000000000 * val xs) / 1000000000 = val xs := by omega
      rw [e1, e2]

theorem keep_take {l : List Nat} {k : Nat} (hk : k < l.length) (h0 : l.getD k 0 = 0) (h : keep (l.take (k + 1)) = keep l) : keep (l.take k) = keep l := by
  rw [← h]
  clear h
  induction l generalizing k with
  | nil => simp at hk
  | cons x xs ih =>
    cases k with
    | zero => simp at h0; subst h0; rfl
    | succ k =>
      have := ih (k := k) (by simpa using hk) (by simpa using h0)
      simp only [List.take_succ_cons, keep] at this ⊢
      rw [this]

theorem keep_last {l : List Nat} {k : Nat} (hk : k < l.length) (h0 : l.getD k 0 ≠ 0) (h : keep (l.take (k + 1)) = keep l) : keep l = k + 1 := by
  rw [← h]; clear h
  induction l generalizing k with
  | nil => simp at hk
  | cons x xs ih =>
    cases k with
    | zero => simp at h0; simp [keep, h0]
    | succ k =>
      have := ih (k := k) (by simpa using hk) (by simpa using h0)
      simp only [List.take_succ_cons, keep] at this ⊢
      rw [this]; simp

end Go.Proofs.YtipnnmbjkpidoaaGreatDoor

namespace Go.Proofs.YtipnnmbjkpidoaaGreatDoor
open Go Go.Proofs Go.RowKit

def lenOf : Value → Nat | .slice _ n _ => n | _ => 0

theorem RowAt.take {w : World} {ao : Option Addr} {c : Nat} {l : List Nat} (h : RowAt w ao c l) (k : Nat) (hk : k ≤ l.length) : RowAt w ao c (l.take k) := by
  obtain ⟨h1, h2, h3⟩ := h
  have hl : (l.take k).length = k := by simp; omega
  refine ⟨by omega, h2, ?_⟩
  rcases h3 with ⟨h3, h4⟩ | ⟨b, off, he, hlt, hc⟩
  · left; rw [h3]; exact ⟨by simp, h4⟩
  · right
    refine ⟨b, off, he, hlt, fun j hj => ?_⟩
    have := hc j (by omega)
    rw [this]
    have e : (l.take k).getD j 0 = l.getD j 0 := by
      rw [getD_lt _ _ hj, getD_lt _ _ (by omega), List.getElem_take]
    rw [e]

/-- The end of a function whose result is a struct in a box. -/
theorem trimmed_nil (ao : Option Addr) (c : Nat) (w : World) :
    Calls Tryz.prog 167 #[.slice ao 0 c] w fun e w' => e = .returned (.agg #[.slice ao 0 c]) ∧ Below w.heap.size w w' := by
  go_enter Tryz.func167, Tryz.ntmps167
  go_wp2_with fail
  go_rounds 1
  go_returns
  exact ⟨rfl, by go_grown⟩

set_option maxHeartbeats 1000000 in
theorem trimmed_row (l : List Nat) (ao : Option Addr) (c : Nat) (w : World) (hr : RowAt w ao c l) (hs : Small l) (hne : l ≠ []) :
    Calls Tryz.prog 167 #[.slice ao l.length c] w fun e w' => e = .returned (.agg #[.slice ao (keep l) c]) ∧ Below w.heap.size w w' := by
  obtain ⟨d, hd, hdb, hxc⟩ := hr.open hs
  obtain ⟨b, off, rfl, hb, hxc⟩ := hxc.resolve_left hne
  have h1 := hr.1; have h2 := hr.2.1
  have hkl := keep_le l
  have hk0 : keep (l.take l.length) = keep l := by rw [List.take_length]
  have hstep : ∀ k, k < l.length → keep (l.take (k + 1)) = keep l → d k = 0 → keep (l.take k) = keep l := fun k hk h h0 => keep_take hk (by have := hd k hk; omega) h
  have hlast : ∀ k, k < l.length → keep (l.take (k + 1)) = keep l → d k ≠ 0 → keep l = k + 1 := fun k hk h h0 => keep_last hk (by have := hd k hk; omega) h
  have hzero : keep (l.take 0) = keep l → keep l = 0 := fun h => by rw [← h]; rfl
  generalize hK : (fun k => keep (l.take k) = keep l) = K
  have hK' : ∀ k, (keep (l.take k) = keep l) = K k := fun k => congrFun hK k
  simp only [hK'] at hk0 hstep hlast hzero
  clear hK hK' hd hr hs hne
  generalize keep l = r at *
  generalize l.length = n at *
  have h5 : n ≤ 9223372036854775807 := by omega
  have HS := Lib.hid hstep; have HL := Lib.hid hlast; have HZ := Lib.hid hzero; have HK := Lib.hid hk0; have HX := Lib.hid hxc
  clear hstep hlast hzero hk0 hxc hdb
  go_enter Tryz.func167, Tryz.ntmps167
  go_wp2_with fail
  go_loop [0] (fun v => ∃ k : Nat, k ≤ n ∧ v = .slice (some ⟨b, off, none⟩) k c ∧ K k) (fun v => lenOf v)
  case atStart => exact ⟨n, Nat.le_refl _, rfl, HK.out⟩
  case round =>
    obtain ⟨k, hk, rfl, hKk⟩ := hrel
    have HKk := Lib.hid hKk; clear hKk
    rcases Nat.eq_zero_or_pos k with rfl | hk1
    · have hr0 : r = 0 := HZ.out HKk.out
      subst hr0
      go_wp2
      go_returns
      exact ⟨rfl, by go_grown⟩
    · obtain ⟨j, rfl⟩ : ∃ j, k = j + 1 := ⟨k - 1, by omega⟩
      have c1 : w.cell? ⟨b, off + j, none⟩ = some (.int .u32 (d j)) := HX.out j (by omega)
      by_cases h0 : d j = 0
      · have hz : (d j == 0) = true := by simp [h0]
        have H0 := Lib.hid h0; clear h0
        go_wp2
        go_round
        case rel => exact ⟨j, by omega, rfl, HS.out j (by omega) HKk.out H0.out⟩
        case measure => simp [lenOf]
      · have hz : (d j == 0) = false := by simp [h0]
        have hr1 : r = j + 1 := HL.out j (by omega) HKk.out h0
        subst hr1
        clear h0
        go_wp2
        go_returns
        exact ⟨rfl, by go_grown⟩

/-- A function returns a number, and has turned nothing that lay before. -/
def RetN (x : Nat) (w : World) (e : Ending) (w' : World) : Prop := ∃ v, e = .returned v ∧ NumAt w' v x ∧ Below w.heap.size w w'

theorem trimmed_any (l : List Nat) (ao : Option Addr) (c : Nat) (w : World) (hr : RowAt w ao c l) (hs : Small l) :
    Calls Tryz.prog 167 #[.slice ao l.length c] w (RetN (val l) w) := by
  by_cases hne : l = []
  · subst hne
    refine (trimmed_nil ao c w).mono fun e w' h => ⟨_, h.1, ?_, h.2⟩
    refine ⟨ao, c, by rw [val_nil, limbs_zero]; rfl, ?_⟩
    rw [val_nil, limbs_zero]; exact hr.mono h.2
  · refine (trimmed_row l ao c w hr hs hne).mono fun e w' h => ⟨_, h.1, ?_, h.2⟩
    have hk := keep_le l
    have hl : (limbs (val l)).length = keep l := by rw [← take_keep hs]; simp; omega
    refine ⟨ao, c, by rw [hl], ?_⟩
    rw [← take_keep hs]; exact (hr.take _ hk).mono h.2

end Go.Proofs.YtipnnmbjkpidoaaGreatDoor

namespace Go.Proofs.YtipnnmbjkpidoaaGreatDoor
open Go Go.Proofs Go.RowKit

/-- Limbs as cells. -/
def cellsOf (l : List Nat) : List Value := l.map fun n => Value.int .u32 (n : Nat)

theorem cellsOf_length (l : List Nat) : (cellsOf l).length = l.length := by simp [cellsOf]
theorem cellsOf_get (l : List Nat) (k : Nat) (h : k < l.length) : (cellsOf l)[k]? = some (.int .u32 (l.getD k 0 : Nat)) := by
  simp [cellsOf, h]
theorem cellsOf_append (a b : List Nat) : cellsOf (a ++ b) = cellsOf a ++ cellsOf b := by simp [cellsOf]

/-- What the call owns is a row of limbs. -/
theorem row_of_owns {w : World} {base : Nat} {v : Value} {n : Nat} {l : List Nat} (h : w.ownsRow base 123 1 v n (cellsOf l)) :
    ∃ ao c, v = .slice ao l.length c ∧ RowAt w ao c l := by
  obtain ⟨h1, h2⟩ := h
  rw [cellsOf_length] at h1
  have hn : n = l.length := by omega
  subst hn
  rcases h2 with ⟨rfl, h0⟩ | ⟨g, cap, cur, rfl, hb, hg, hle, hm, hs, ht⟩
  · have : l = [] := List.length_eq_zero_iff.1 h0
    subst this
    exact ⟨none, 0, rfl, Nat.le_refl _, by decide, .inl ⟨rfl, fun _ => rfl⟩⟩
  · refine ⟨some ⟨g, 0, none⟩, cap, rfl, hle, by unfold maxLen at hm; omega, .inr ⟨g, 0, rfl, lt_of_block hg, fun k hk => ?_⟩⟩
    rw [Nat.zero_add]
    have e : w.cell? ⟨g, k, none⟩ = cur[k]? := by simp [World.cell?, hg]
    rw [e]
    have h3 := cellsOf_get l k hk
    rw [← ht, List.getElem?_take] at h3
    rw [if_pos (by omega)] at h3
    simpa using h3

theorem infoU32 : (Tryz.prog.info? 123).map (fun i => (i.zero, i.size, i.bytes)) = some (some (.int .u32 0), 1, 4) := by kernel_rfl

theorem of_step (word : Nat) (l : List Nat) (m : Nat) (h : l ++ limbs m = limbs word) (hm : m ≠ 0) : (l ++ [m % 1000000000]) ++ limbs (m / 1000000000) = limbs word := by
  rw [← h, List.append_assoc, limbs_pos hm]; rfl

theorem u64_div (k : Nat) (h : k < 18446744073709551616) : IntKind.u64.wrap ((k : Int) / 1000000000) = ((k / 1000000000 : Nat) : Int) := by
  rw [IntKind.wrap_u64]; omega

set_option maxHeartbeats 1000000 in
theorem of_any (x : Nat) (hx : x < 18446744073709551616) (w : World) :
    Calls Tryz.prog 139 #[.int .u64 x] w (RetN x w) := by
  obtain ⟨i0, hi, hz0, hz1, hz2⟩ := info_parts infoU32
  have hlen : (limbs x).length ≤ 3 := limbs_length_le (by omega)
  have hst := of_step x
  have hst0 : [] ++ limbs x = limbs x := rfl
  have HL := Lib.hid hlen; have HS := Lib.hid hst; have H0 := Lib.hid hst0; clear hlen hst hst0
  have HX := Lib.hid hx; clear hx
  go_enter Tryz.func139, Tryz.ntmps139
  go_wp2_with fail
  go_loopw [0, 3] (fun m v wr => ∃ (l : List Nat) (k : Nat), k < 18446744073709551616 ∧ m = .int .u64 k ∧ l ++ limbs k = limbs x ∧ wr.ownsRow (w.heap.size + 1) 123 1 v l.length (cellsOf l) ∧ Below (w.heap.size + 1) (w.alloc (Obj.cells #[Value.slice none 0 0] 79)) wr) (fun m _ _ => (intOf m).toNat)
  case atStart => exact ⟨[], x, HX.out, rfl, H0.out, World.ownsRow_nil _ _ _ _, Below.refl _ _⟩
  case round =>
    obtain ⟨l, k, hk, rfl, hlk, hown, hbw⟩ := hrel
    have hll : l.length ≤ 3 := by have := congrArg List.length hlk; simp at this; have := HL.out; omega
    have HLK := Lib.hid hlk; have HK := Lib.hid hk; clear hlk hk
    by_cases hk0 : k = 0
    · have hll' : l = limbs x := by have := HLK.out; rwa [hk0, limbs_zero, List.append_nil] at this
      have HLL := Lib.hid hll'; clear hll'
      have hkn : decide (0 < k) = false := by simp; omega
      obtain ⟨ao, c, rfl, -⟩ := row_of_owns hown
      have HO := Lib.hid hown; clear hown hk0 hll
      have cR : wr.cell? ⟨w.heap.size, 0, none⟩ = some (Value.slice none 0 0) := (hbw.cell (p := ⟨w.heap.size, 0, none⟩) (by simp)).trans (by go_cell)
      have fR : wr.frozen? ⟨w.heap.size, 0, none⟩ = false := (hbw.frozen (p := ⟨w.heap.size, 0, none⟩) (by simp)).trans (by go_cell)
      go_wp2
      refine bodyPost_ret (v := .agg #[.slice ao l.length c]) (by simp [results, Tryz.results139, go_sem, cellSet cR]) rfl ?_
      have hown2 := ownsRow_setCell_below HO.out (a := ⟨w.heap.size, 0, none⟩) (by simp) (Value.slice ao l.length c)
      obtain ⟨ao', c', he, hr'⟩ := row_of_owns hown2
      injection he with h1 h2 h3
      subst h1; subst h3
      refine ⟨_, rfl, ⟨ao, c, ?_, ?_⟩, ?_⟩
      · rw [← HLL.out]
      · rw [← HLL.out]; exact hr'
      · exact (((Below.refl _ _).alloc (Nat.le_refl _) _).trans (hbw.mono (by omega))).setCell (p := ⟨w.heap.size, 0, none⟩) (Nat.le_refl _) _
    · have hk1 : 0 < k := by omega
      go_wp2_with (at_builtin; refine wpList_append_own _ rfl _ _ 77 rfl (w.heap.size + 1) 123 i0 (.int .u32 0) 1 4 Tryz.underlying77 hi hz0 hz1 hz2 rfl (by decide) _ _ _ rfl (hown.alloc _) ⟨wr.heap.size, 0, none⟩ 1 1 [.int .u32 ((k : Int) % 1000000000)] rfl rfl ?c1 ?c2 ?c3 ?c4 ?c5 ?_)
      case c1 => intro j u hj; match j, hj with | 0, hj => (simp at hj; subst hj; simp [Addr.add])
      case c2 => intro u hu; simp at hu; subst hu; rfl
      case c3 => unfold maxLen; omega
      case c4 => omega
      case c5 => have := hbw.size; simp at this ⊢; omega
      intro v' w1 hown' hgrow _
      go_wp2
      go_roundw
      case rel =>
        refine ⟨l ++ [k % 1000000000], k / 1000000000, by have := HK.out; omega, by rw [u64_div k HK.out], of_step x l k HLK.out hk0, ?_, ?_⟩
        · rw [cellsOf_append, List.length_append]; exact hown'
        · exact hbw.trans (((Below.refl _ _).alloc (by have := hbw.size; simp at this; omega) _).grown hgrow (by have := hbw.size; simp at this ⊢; omega) (fun k hk => ((hown.lt k hk)).1))
      case measure => simp only [intOf]; rw [u64_div k HK.out]; omega
end Go.Proofs.YtipnnmbjkpidoaaGreatDoor

/-
  Plain mathematics of the loops over limbs: a step each.
-/
namespace Go.Proofs.YtipnnmbjkpidoaaGreatDoor

theorem val_take_getD (l : List Nat) (i : Nat) : val (l.take (i + 1)) = val (l.take i) + l.getD i 0 * 1000000000 ^ i := by
  by_cases h : i < l.length
  · rw [val_take_succ l i h, getD_lt l i h]
  · rw [getD_ge l i (by omega), List.take_of_length_le (by omega), List.take_of_length_le (by omega)]; simp

theorem take_set (l : List Nat) (i v : Nat) : (l.set i v).take i = l.take i := by
  rw [List.take_set_of_le (Nat.le_refl _)]

theorem val_set_take (l : List Nat) (i v : Nat) (h : i < l.length) : val ((l.set i v).take (i + 1)) = val (l.take i) + v * 1000000000 ^ i := by
  rw [val_take_getD, take_set, getD_lt _ _ (by simpa using h), List.getElem_set_self]

/-- What the loop of an addition keeps. -/
structure AddInv (x y s : List Nat) (n i c : Nat) : Prop where
  len : s.length = n + 1
  small : Small s
  carry : c ≤ 1
  eq : val (s.take i) + c * 1000000000 ^ i = val (x.take i) + val (y.take i)

theorem AddInv.start (x y : List Nat) (n : Nat) : AddInv x y (List.replicate (n + 1) 0) n 0 0 :=
  ⟨by simp, Small.replicate _, by omega, by simp [val]⟩

theorem AddInv.step {x y s : List Nat} {n i c : Nat} (h : AddInv x y s n i c) (hi : i < n) (hx : Small x) (hy : Small y) :
    AddInv x y (s.set i ((x.getD i 0 + c + y.getD i 0) % 1000000000)) n (i + 1) ((x.getD i 0 + c + y.getD i 0) / 1000000000) := by
  have h1 := hx.getD i; have h2 := hy.getD i; have h3 := h.carry
  refine ⟨by simp [h.len], h.small.set _ _ (by omega), by omega, ?_⟩
  rw [val_set_take _ _ _ (by rw [h.len]; omega), val_take_getD, val_take_getD]
  have h4 := h.eq
  have h5 := Nat.div_add_mod (x.getD i 0 + c + y.getD i 0) 1000000000
  generalize (x.getD i 0 + c + y.getD i 0) / 1000000000 = q at *
  generalize (x.getD i 0 + c + y.getD i 0) % 1000000000 = r at *
  rw [Nat.pow_succ]
  generalize 1000000000 ^ i = p at *
  have : r * p + q * (p * 1000000000) = (1000000000 * q + r) * p := by grind
  have e2 : (x.getD i 0 + c + y.getD i 0) * p = x.getD i 0 * p + c * p + y.getD i 0 * p := by grind
  rw [h5, e2] at this
  omega

theorem AddInv.done {x y s : List Nat} {n c : Nat} (h : AddInv x y s n n c) (hx : x.length = n) (hy : y.length ≤ n) :
    Small (s.set n c) ∧ (s.set n c).length = n + 1 ∧ val (s.set n c) = val x + val y := by
  have h3 := h.carry
  refine ⟨h.small.set _ _ (by omega), by simp [h.len], ?_⟩
  have e : (s.set n c).take (n + 1) = s.set n c := List.take_of_length_le (by simp [h.len])
  rw [← e, val_set_take _ _ _ (by rw [h.len]; omega), h.eq, List.take_of_length_le (by omega), List.take_of_length_le (by omega)]

end Go.Proofs.YtipnnmbjkpidoaaGreatDoor

/-
  Plain mathematics of digits by nines.
-/
namespace Go.Proofs.YtipnnmbjkpidoaaGreatDoor

/-- The limbs of digits, the lowest one first. -/
def chunks (l : List UInt8) : List Nat :=
  if h : l = [] then [] else dec (l.drop (l.length - 9)) :: chunks (l.take (l.length - 9))
termination_by l.length
decreasing_by
  have : 0 < l.length := List.length_pos_iff.2 h
  simp; omega

theorem chunks_nil : chunks [] = [] := by rw [chunks]; rfl
theorem chunks_cons {l : List UInt8} (h : l ≠ []) : chunks l = dec (l.drop (l.length - 9)) :: chunks (l.take (l.length - 9)) := by rw [chunks, dif_neg h]

theorem chunks_facts : ∀ (n : Nat) (l : List UInt8), l.length = n → AllDig l → Small (chunks l) ∧ val (chunks l) = dec l ∧ (chunks l).length * 9 ≤ l.length + 8 := by
  intro n
  induction n using Nat.strongRecOn with
  | _ n ih =>
    intro l hl hd
    by_cases h : l = []
    · subst h; rw [chunks_nil]; exact ⟨Small.nil, rfl, by simp⟩
    · have hp : 0 < l.length := List.length_pos_iff.2 h
      rw [chunks_cons h]
      have hlt : (l.take (l.length - 9)).length < n := by simp; omega
      obtain ⟨h1, h2, h3⟩ := ih _ hlt _ rfl (hd.take _)
      have hdl := dec_lt (hd.drop (l.length - 9))
      have hdn : (l.drop (l.length - 9)).length ≤ 9 := by simp; omega
      have h9 : 10 ^ (l.drop (l.length - 9)).length ≤ 10 ^ 9 := Nat.pow_le_pow_right (by decide) hdn
      refine ⟨Small.cons (by omega) h1, ?_, ?_⟩
      · rw [val_cons, h2]
        have e : dec l = dec (l.take (l.length - 9)) * 10 ^ (l.drop (l.length - 9)).length + dec (l.drop (l.length - 9)) := by rw [← dec_append, List.take_append_drop]
        by_cases h10 : 9 ≤ l.length
        · have : (l.drop (l.length - 9)).length = 9 := by simp; omega
          rw [this] at e
          omega
        · have ht : l.take (l.length - 9) = [] := by rw [show l.length - 9 = 0 by omega, List.take_zero]
          rw [ht] at e ⊢
          simp [dec] at e ⊢
          exact e.symm
      · simp only [List.length_cons]
        simp only [List.length_take] at h3
        omega

/-- A step of the iterator, which begins at the end. -/
theorem chunks_step (l : List UInt8) (e : Nat) (he : 0 < e) (hl : e ≤ l.length) : chunks (l.take e) = dec ((l.drop (e - 9)).take (e - (e - 9))) :: chunks (l.take (e - 9)) := by
  have hne : l.take e ≠ [] := by
    intro h
    have h1 : (l.take e).length = e := by rw [List.length_take]; omega
    rw [h] at h1
    simp at h1
    omega
  rw [chunks_cons hne]
  have hlen : (l.take e).length = e := by simp; omega
  rw [hlen, List.take_take, Nat.min_eq_left (by omega)]
  congr 1
  rw [List.drop_take]

end Go.Proofs.YtipnnmbjkpidoaaGreatDoor
