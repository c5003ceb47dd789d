import Derived.Test.YtipnnmbjkpidoaaGreatDoorBase2

set_option linter.unusedVariables false
namespace Go.Proofs.YtipnnmbjkpidoaaGreatDoor
open Go Go.Proofs Go.RowKit

theorem cmp_eq (x y : Nat) (he : (limbs x).length = (limbs y).length) (h : ∀ j, j < (limbs x).length → (limbs x).getD j 0 = (limbs y).getD j 0) : cmpN x y = 0 := by
  have : limbs x = limbs y := by
    refine List.ext_getElem he fun j h1 h2 => ?_
    have := h j h1
    rwa [getD_lt _ _ h1, getD_lt _ _ h2] at this
  have e : x = y := by rw [← val_limbs x, this, val_limbs]
  subst e; simp [cmpN]

theorem cmp_top (x y : Nat) (he : (limbs x).length = (limbs y).length) (i : Nat) (hi : i < (limbs x).length)
    (h : ∀ j, i < j → j < (limbs x).length → (limbs x).getD j 0 = (limbs y).getD j 0) (hne : (limbs x).getD i 0 ≠ (limbs y).getD i 0) :
    cmpN x y = if (limbs x).getD i 0 < (limbs y).getD i 0 then -1 else 1 := by
  have hd : (limbs x).drop (i + 1) = (limbs y).drop (i + 1) := by
    refine List.ext_getElem (by simp [he]) fun j h1 h2 => ?_
    simp only [List.getElem_drop]
    have h3 : i + 1 + j < (limbs x).length := by simp at h1; omega
    have := h (i + 1 + j) (by omega) h3
    rwa [getD_lt _ _ h3, getD_lt _ _ (by omega)] at this
  rw [getD_lt _ _ hi, getD_lt _ _ (by omega)] at *
  unfold cmpN
  by_cases hl : (limbs x)[i] < (limbs y)[i]
  · have := val_lt_of_top (limbs_small x) he i hi hd hl
    rw [val_limbs, val_limbs] at this
    rw [if_pos this, if_pos hl]
  · have := val_lt_of_top (limbs_small y) he.symm i (by omega) hd.symm (by omega)
    rw [val_limbs, val_limbs] at this
    rw [if_neg (by omega), if_neg (by omega), if_neg hl]

set_option maxHeartbeats 2000000 in
theorem compare_loop (x y : Nat) (vx vy : Value) (w : World) (hx : NumAt w vx x) (hy : NumAt w vy y) (he : (limbs x).length = (limbs y).length) (h0 : limbs x ≠ []) :
    Calls Tryz.prog 168 #[vx, vy] w fun e w' => e = .returned (.int .i64 (cmpN x y)) ∧ Below w.heap.size w w' := by
  obtain ⟨ao, c, rfl, hx⟩ := hx
  obtain ⟨ap, c', rfl, hy⟩ := hy
  have h0' : limbs y ≠ [] := by intro h; rw [h] at he; simp at he; exact h0 he
  obtain ⟨d, hd, hdb, hxc⟩ := hx.open (limbs_small x)
  obtain ⟨f, hf, hfb, hyc⟩ := hy.open (limbs_small y)
  have h1 := hx.1; have h2 := hx.2.1
  have hz := cmp_eq x y he
  have ht := cmp_top x y he
  obtain ⟨b, off, rfl, hb, hxc⟩ := hxc.resolve_left h0
  obtain ⟨b', off', rfl, hb', hyc⟩ := hyc.resolve_left h0'
  rw [← he] at hf hyc ⊢
  have hZ : (∀ j, j < (limbs x).length → d j = f j) → cmpN x y = 0 := fun h => hz fun j hj => by
    have := h j hj; rw [hd j hj, hf j hj] at this; exact Int.ofNat.inj this
  have hT : ∀ i, i < (limbs x).length → (∀ j, i < j → j < (limbs x).length → d j = f j) → d i ≠ f i → cmpN x y = if d i < f i then -1 else 1 := fun i hi h hne => by
    rw [ht i hi (fun j h1 h2 => by have := h j h1 h2; rw [hd j h2, hf j h2] at this; exact Int.ofNat.inj this) (fun e => hne (by rw [hd i hi, hf i hi, e])), hd i hi, hf i hi]
    simp only [Int.ofNat_lt]
  generalize (limbs x).length = n at *
  have h5 : n ≤ 9223372036854775807 := by omega
  generalize cmpN x y = r at *
  have HZ := Lib.hid hZ; have HT := Lib.hid hT; have HXC := Lib.hid hxc; have HYC := Lib.hid hyc
  clear hd hf hx hy he hz ht hxc hyc hdb hfb h1 h2 h0 h0' hZ hT
  go_enter Tryz.func168, Tryz.ntmps168
  go_wp2_with fail
  have A := two_new w (Value.slice (some { block := b, off := off }) n c) (Value.slice (some { block := b', off := off' }) n c') 79 79
  generalize hW : (w.alloc (Obj.cells #[Value.slice (some { block := b, off := off }) n c] 79)).alloc (Obj.cells #[Value.slice (some { block := b', off := off' }) n c'] 79) = W0 at A ⊢
  clear hW
  go_loopw [5] (fun i wr => ∃ k : Int, -1 ≤ k ∧ k < n ∧ i = .int .i64 k ∧ (∀ j : Nat, k < j → j < n → d j = f j) ∧ Below (w.heap.size + 2) W0 wr) (fun i _ => (intOf i + 1).toNat)
  case atStart => exact ⟨(n : Int) - 1, by omega, by omega, rfl, fun j h1 h2 => by omega, Below.refl _ _⟩
  case round =>
    obtain ⟨k, hk1, hk2, rfl, heq, hbw⟩ := hrel
    have HEQ := Lib.hid heq; clear heq
    have c1 : wr.cell? ⟨w.heap.size, 0, none⟩ = some (Value.slice (some { block := b, off := off }) n c) := (hbw.cell (p := ⟨w.heap.size, 0, none⟩) (by simp)).trans A.c1
    have c2 : wr.cell? ⟨w.heap.size + 1, 0, none⟩ = some (Value.slice (some { block := b', off := off' }) n c') := (hbw.cell (p := ⟨w.heap.size + 1, 0, none⟩) (by simp)).trans A.c2
    by_cases hk : k = -1
    · subst hk
      go_wp2
      go_ret
      exact ⟨ret_int (HZ.out fun j hj => HEQ.out j (by omega) hj).symm, A.below.trans (hbw.mono (by omega))⟩
    · obtain ⟨j, rfl⟩ := Int.eq_ofNat_of_zero_le (show 0 ≤ k by omega)
      have hj : j < n := by omega
      have c3 : wr.cell? ⟨b, off + j, none⟩ = some (.int .u32 (d j)) := ((hbw.cell (p := ⟨b, off + j, none⟩) (by simp; omega)).trans (A.below.cell (p := ⟨b, off + j, none⟩) hb)).trans (HXC.out j hj)
      have c4 : wr.cell? ⟨b', off' + j, none⟩ = some (.int .u32 (f j)) := ((hbw.cell (p := ⟨b', off' + j, none⟩) (by simp; omega)).trans (A.below.cell (p := ⟨b', off' + j, none⟩) hb')).trans (HYC.out j hj)
      by_cases hdf : d j = f j
      · have hb1 : (d j != f j) = false := by simp [hdf]
        have HDF := Lib.hid hdf; clear hdf
        go_wp2
        go_quiet (fail)
        go_wp2
        go_roundw
        case rel => exact ⟨(j : Int) - 1, by omega, by omega, rfl, fun i h1 h2 => by
          by_cases e : i = j
          · rw [e]; exact HDF.out
          · exact HEQ.out i (by omega) h2, hbw.trans (below_drewN (Below.refl _ _) _)⟩
        case measure => simp [intOf]
      · have hb1 : (d j != f j) = true := by simp [hdf]
        have hr := HT.out j hj (fun i h1 h2 => HEQ.out i (by omega) h2) hdf
        have HR := Lib.hid hr; clear hr hdf
        by_cases hlt : d j < f j
        · have hdl : decide (d j < f j) = true := by simp [hlt]
          go_wp2
          go_quiet (fail)
          go_wp2
          go_quiet ((go_at_call 191; exact drawsOn (direction_any _ _)))
          go_wp2
          go_ret
          refine ⟨ret_int ?_, (A.below.trans (hbw.mono (by omega))).trans (below_drewN (below_drewN (Below.refl _ _) _) _)⟩
          rw [HR.out, if_pos hlt]
        · have hdl : decide (d j < f j) = false := by simp [hlt]
          go_wp2
          go_quiet (fail)
          go_wp2
          go_quiet ((go_at_call 191; exact drawsOn (direction_any _ _)))
          go_wp2
          go_ret
          refine ⟨ret_int ?_, (A.below.trans (hbw.mono (by omega))).trans (below_drewN (Below.refl _ _) _)⟩
          rw [HR.out, if_neg (by omega)]

theorem compare_nil (ao ap : Option Addr) (c c' : Nat) (w : World) :
    Calls Tryz.prog 168 #[.agg #[.slice ao 0 c], .agg #[.slice ap 0 c']] w fun e w' => e = .returned (.int .i64 0) ∧ Below w.heap.size w w' := by
  go_enter Tryz.func168, Tryz.ntmps168
  go_wp2_with fail
  go_rounds 1
  go_ret
  exact ⟨rfl, by go_grown⟩

theorem compare_any (x y : Nat) (vx vy : Value) (w : World) (hx : NumAt w vx x) (hy : NumAt w vy y) :
    Calls Tryz.prog 168 #[vx, vy] w fun e w' => e = .returned (.int .i64 (cmpN x y)) ∧ Below w.heap.size w w' := by
  by_cases he : (limbs x).length = (limbs y).length
  · by_cases h0 : limbs x = []
    · obtain ⟨ao, c, rfl, -⟩ := hx
      obtain ⟨ap, c', rfl, -⟩ := hy
      have ex := limbs_nil_iff.1 h0
      have hy0 : limbs y = [] := by rw [h0] at he; exact List.length_eq_zero_iff.1 he.symm
      have ey := limbs_nil_iff.1 hy0
      have e0 : cmpN x y = 0 := by subst ex; subst ey; rfl
      rw [e0, hy0, h0]
      exact compare_nil ao ap c c' w
    · exact compare_loop x y vx vy w hx hy he h0
  · exact compare_len x y vx vy w hx hy he
end Go.Proofs.YtipnnmbjkpidoaaGreatDoor

namespace Go.Proofs.YtipnnmbjkpidoaaGreatDoor
open Go Go.Proofs Go.RowKit

/-- The number of limbs when zeros at the end are left out. -/
def keep : List Nat → Nat
  | [] => 0
  | x :: xs => if keep xs = 0 ∧ x = 0 then 0 else keep xs + 1

theorem keep_le (l : List Nat) : keep l ≤ l.length := by
  induction l with
  | nil => exact Nat.le_refl _
  | cons x xs ih => simp only [keep, List.length_cons]; split <;> omega

theorem take_keep {l : List Nat} (hs : Small l) : l.take (keep l) = limbs (val l) := by
  induction l with
  | nil => rw [val_nil, limbs_zero]; rfl
  | cons x xs ih =>
    have h1 := hs.head
    have h2 := ih hs.tail
    have h3 : keep xs = 0 → val xs = 0 := fun h => by
      rw [h, List.take_zero] at h2; exact limbs_nil_iff.1 h2.symm
    have h4 : val xs = 0 → keep xs = 0 := fun h => by
      rw [h, limbs_zero] at h2
      have := congrArg List.length h2
      simp at this
      rcases this with h | h
      · exact h
      · rw [h]; rfl
    simp only [keep, val]
    by_cases h : keep xs = 0 ∧ x = 0
    · rw [if_pos h, h3 h.1, h.2, List.take_zero]; simp [limbs_zero]
    · rw [if_neg h, List.take_succ_cons, h2]
      have hne : x + 1000000000 * val xs ≠ 0 := by
        intro e
        exact h ⟨h4 (by omega), by omega⟩
      rw [limbs_pos hne]
      have e1 : (x + 1000000000 * val xs) % 1000000000 = x := by omega
      have e2 : (x + 1000000000 * val xs) / 1000000000 = val xs := by omega
      rw [e1, e2]

theorem keep_take {l : List Nat} {k : Nat} (hk : k < l.length) (h0 : l.getD k 0 = 0) (h : keep (l.take (k + 1)) = keep l) : keep (l.take k) = keep l := by
  rw [← h]
  clear h
  induction l generalizing k with
  | nil => simp at hk
  | cons x xs ih =>
    cases k with
    | zero => simp at h0; subst h0; rfl
    | succ k =>
      have := ih (k := k) (by simpa using hk) (by simpa using h0)
      simp only [List.take_succ_cons, keep] at this ⊢
      rw [this]

theorem keep_last {l : List Nat} {k : Nat} (hk : k < l.length) (h0 : l.getD k 0 ≠ 0) (h : keep (l.take (k + 1)) = keep l) : keep l = k + 1 := by
  rw [← h]; clear h
  induction l generalizing k with
  | nil => simp at hk
  | cons x xs ih =>
    cases k with
    | zero => simp at h0; simp [keep, h0]
    | succ k =>
      have := ih (k := k) (by simpa using hk) (by simpa using h0)
      simp only [List.take_succ_cons, keep] at this ⊢
      rw [this]; simp

end Go.Proofs.YtipnnmbjkpidoaaGreatDoor

namespace Go.Proofs.YtipnnmbjkpidoaaGreatDoor
open Go Go.Proofs Go.RowKit

def lenOf : Value → Nat | .slice _ n _ => n | _ => 0

theorem RowAt.take {w : World} {ao : Option Addr} {c : Nat} {l : List Nat} (h : RowAt w ao c l) (k : Nat) (hk : k ≤ l.length) : RowAt w ao c (l.take k) := by
  obtain ⟨h1, h2, h3⟩ := h
  have hl : (l.take k).length = k := by simp; omega
  refine ⟨by omega, h2, ?_⟩
  rcases h3 with ⟨h3, h4⟩ | ⟨b, off, he, hlt, hc⟩
  · left; rw [h3]; exact ⟨by simp, h4⟩
  · right
    refine ⟨b, off, he, hlt, fun j hj => ?_⟩
    have := hc j (by omega)
    rw [this]
    have e : (l.take k).getD j 0 = l.getD j 0 := by
      rw [getD_lt _ _ hj, getD_lt _ _ (by omega), List.getElem_take]
    rw [e]

/-- The end of a function whose result is a struct in a box. -/
theorem trimmed_nil (ao : Option Addr) (c : Nat) (w : World) :
    Calls Tryz.prog 167 #[.slice ao 0 c] w fun e w' => e = .returned (.agg #[.slice ao 0 c]) ∧ Below w.heap.size w w' := by
  go_enter Tryz.func167, Tryz.ntmps167
  go_wp2_with fail
  go_rounds 1
  go_returns
  exact ⟨rfl, by go_grown⟩

set_option maxHeartbeats 1000000 in
theorem trimmed_row (l : List Nat) (ao : Option Addr) (c : Nat) (w : World) (hr : RowAt w ao c l) (hs : Small l) (hne : l ≠ []) :
    Calls Tryz.prog 167 #[.slice ao l.length c] w fun e w' => e = .returned (.agg #[.slice ao (keep l) c]) ∧ Below w.heap.size w w' := by
  obtain ⟨d, hd, hdb, hxc⟩ := hr.open hs
  obtain ⟨b, off, rfl, hb, hxc⟩ := hxc.resolve_left hne
  have h1 := hr.1; have h2 := hr.2.1
  have hkl := keep_le l
  have hk0 : keep (l.take l.length) = keep l := by rw [List.take_length]
  have hstep : ∀ k, k < l.length → keep (l.take (k + 1)) = keep l → d k = 0 → keep (l.take k) = keep l := fun k hk h h0 => keep_take hk (by have := hd k hk; omega) h
  have hlast : ∀ k, k < l.length → keep (l.take (k + 1)) = keep l → d k ≠ 0 → keep l = k + 1 := fun k hk h h0 => keep_last hk (by have := hd k hk; omega) h
  have hzero : keep (l.take 0) = keep l → keep l = 0 := fun h => by rw [← h]; rfl
  generalize hK : (fun k => keep (l.take k) = keep l) = K
  have hK' : ∀ k, (keep (l.take k) = keep l) = K k := fun k => congrFun hK k
  simp only [hK'] at hk0 hstep hlast hzero
  clear hK hK' hd hr hs hne
  generalize keep l = r at *
  generalize l.length = n at *
  have h5 : n ≤ 9223372036854775807 := by omega
  have HS := Lib.hid hstep; have HL := Lib.hid hlast; have HZ := Lib.hid hzero; have HK := Lib.hid hk0; have HX := Lib.hid hxc
  clear hstep hlast hzero hk0 hxc hdb
  go_enter Tryz.func167, Tryz.ntmps167
  go_wp2_with fail
  go_loop [0] (fun v => ∃ k : Nat, k ≤ n ∧ v = .slice (some ⟨b, off, none⟩) k c ∧ K k) (fun v => lenOf v)
  case atStart => exact ⟨n, Nat.le_refl _, rfl, HK.out⟩
  case round =>
    obtain ⟨k, hk, rfl, hKk⟩ := hrel
    have HKk := Lib.hid hKk; clear hKk
    rcases Nat.eq_zero_or_pos k with rfl | hk1
    · have hr0 : r = 0 := HZ.out HKk.out
      subst hr0
      go_wp2
      go_returns
      exact ⟨rfl, by go_grown⟩
    · obtain ⟨j, rfl⟩ : ∃ j, k = j + 1 := ⟨k - 1, by omega⟩
      have c1 : w.cell? ⟨b, off + j, none⟩ = some (.int .u32 (d j)) := HX.out j (by omega)
      by_cases h0 : d j = 0
      · have hz : (d j == 0) = true := by simp [h0]
        have H0 := Lib.hid h0; clear h0
        go_wp2
        go_round
        case rel => exact ⟨j, by omega, rfl, HS.out j (by omega) HKk.out H0.out⟩
        case measure => simp [lenOf]
      · have hz : (d j == 0) = false := by simp [h0]
        have hr1 : r = j + 1 := HL.out j (by omega) HKk.out h0
        subst hr1
        clear h0
        go_wp2
        go_returns
        exact ⟨rfl, by go_grown⟩

/-- A function returns a number, and has turned nothing that lay before. -/
def RetN (x : Nat) (w : World) (e : Ending) (w' : World) : Prop := ∃ v, e = .returned v ∧ NumAt w' v x ∧ Below w.heap.size w w'

theorem trimmed_any (l : List Nat) (ao : Option Addr) (c : Nat) (w : World) (hr : RowAt w ao c l) (hs : Small l) :
    Calls Tryz.prog 167 #[.slice ao l.length c] w (RetN (val l) w) := by
  by_cases hne : l = []
  · subst hne
    refine (trimmed_nil ao c w).mono fun e w' h => ⟨_, h.1, ?_, h.2⟩
    refine ⟨ao, c, by rw [val_nil, limbs_zero]; rfl, ?_⟩
    rw [val_nil, limbs_zero]; exact hr.mono h.2
  · refine (trimmed_row l ao c w hr hs hne).mono fun e w' h => ⟨_, h.1, ?_, h.2⟩
    have hk := keep_le l
    have hl : (limbs (val l)).length = keep l := by rw [← take_keep hs]; simp; omega
    refine ⟨ao, c, by rw [hl], ?_⟩
    rw [← take_keep hs]; exact (hr.take _ hk).mono h.2

end Go.Proofs.YtipnnmbjkpidoaaGreatDoor
