import Derived.Lib.AppendIntMem
import Derived.Test.YtipnnmbjkpidoaaGreatDoorShelfP
import Derived.Test.YtipnnmbjkpidoaaGreatDoorBase8
import Derived.Test.YtipnnmbjkpidoaaGreatDoorBase4
import Derived.Laws.IdiomStrings
import Derived.Test.YtipnnmbjkpidoaaGreatDoorBase7
import Derived.RegionTactic
import Derived.StillTailTactics

set_option linter.unusedVariables false
/-
  strconv.AppendUint in base 10, for a limb: the library's contract, met by the caller that the program has.
-/
namespace Go.Proofs.YtipnnmbjkpidoaaGreatDoor
open Go Go.Proofs Go.RowKit

set_option maxHeartbeats 1000000 in
theorem appendUint_own (B n u : Nat) (hu : u < 1000000000) (sv : Value) (xs : List Value) (w : World) (hown0 : w.ownsRow B 5 1 sv n xs) (hB : B ≤ w.heap.size) (hlim : n + 20 ≤ 140737488355328) (htab : Lib.TabIs Tryz.prog w "internal/strconv.uint64pow10" .u64 Lib.pow10Tab) :
    Calls Tryz.prog 178 #[sv, .int .u64 u, .int .i64 10] w fun e w' => ∃ v', e = .returned v' ∧ w'.ownsRow B 5 1 v' (n + (Lib.decDigits u).length) (xs ++ Lib.byteCells (Lib.decDigits u)) ∧ Below B w w' := by
  have C : Calls Tryz.prog 199 #[sv, .int .u64 u, .int .i64 10] w fun e w' => ∃ v', e = .returned v' ∧ w'.ownsRow B 5 1 v' (n + (Lib.decDigits u).length) (xs ++ Lib.byteCells (Lib.decDigits u)) ∧ Below B w w' := by
    by_cases h : u < 100
    · exact (Tryz.internal_strconv_AppendUint_10_small B n u h sv xs w hown0 hB hlim).mono fun e w' ⟨v', h1, h2, h3, _⟩ => ⟨v', h1, h2, h3⟩
    · exact (Tryz.internal_strconv_AppendUint_10_big B n u (by omega) (by omega) sv xs w hown0 hB hlim htab).mono fun e w' ⟨v', h1, h2, h3, _⟩ => ⟨v', h1, h2, h3⟩
  clear hown0 htab
  go_enter Tryz.func178, Tryz.ntmps178
  go_wp2_with (go_at_call 199; refine C.mono ?_; rintro e w1 ⟨v1, rfl, hown1, hnx1⟩; refine Hid.out ?_)
  refine Lib.hid ?_
  go_wp2
  go_ret
  exact ⟨_, rfl, hown1, hnx1⟩
end Go.Proofs.YtipnnmbjkpidoaaGreatDoor

/-
  The digits of a number, limb by limb.
-/
namespace Go.Proofs.YtipnnmbjkpidoaaGreatDoor
open Go Go.Proofs Go.RowKit

theorem text_step (l : List Nat) (i : Nat) (h : i < l.length) (hs : Small l) (hpos : val (l.drop (i + 1)) ≠ 0) :
    Lib.decDigits (val (l.drop i)) = Lib.decDigits (val (l.drop (i + 1))) ++ pre (l.getD i 0) 9 := by
  have hd : AllDig (Lib.decDigits (val (l.drop (i + 1))) ++ pre (l.getD i 0) 9) := (allDig_decDigits _).append (pre_dig _ _)
  have hne : Lib.decDigits (val (l.drop (i + 1))) ++ pre (l.getD i 0) 9 ≠ [] := by
    intro e; exact decDigits_ne_nil _ (List.append_eq_nil_iff.1 e).1
  have hv : dec (Lib.decDigits (val (l.drop (i + 1))) ++ pre (l.getD i 0) 9) = val (l.drop i) := by
    rw [dec_append, dec_decDigits, pre_length, dec_pre _ (hs.getD i), List.drop_eq_getElem_cons h, val_cons, getD_lt l i h]
    omega
  rw [← hv]
  refine (eq_decDigits hd hne (.inr ?_)).symm
  rw [List.head_append_of_ne_nil (decDigits_ne_nil _)]
  exact decDigits_head _ hpos

theorem drop_pos (l : List Nat) (hn : Norm l) (i : Nat) (h : i < l.length) : val (l.drop i) ≠ 0 := by
  have hne : l.drop i ≠ [] := by simp; omega
  have hn' : Norm (l.drop i) := by
    intro h'
    rw [List.getLast_drop]
    exact hn _
  exact Nat.ne_of_gt (norm_val_pos hn' hne)

theorem text_top (l : List Nat) (h : 0 < l.length) : val (l.drop (l.length - 1)) = l.getD (l.length - 1) 0 := by
  rw [List.drop_eq_getElem_cons (by omega), val_cons, getD_lt l _ (by omega), show l.length - 1 + 1 = l.length by omega, List.drop_length]
  rfl

theorem decDigits_length_le (u k : Nat) (hk : 1 ≤ k) (h : u < 10 ^ k) : (Lib.decDigits u).length ≤ k := by
  have := nDigits_le_of_lt hk h
  rwa [Lib.decDigits_length]
end Go.Proofs.YtipnnmbjkpidoaaGreatDoor

/-
  natural.Text.
-/
namespace Go.Proofs.YtipnnmbjkpidoaaGreatDoor
open Go Go.Proofs Go.RowKit

theorem dec0 : Lib.decDigits 0 = [48] := (eq_decDigits (l := [48]) (by intro c hc; simp at hc; subst hc; rfl) (by simp) (.inl rfl)).symm

theorem text_zero (v : Value) (w : World) (hv : NumAt w v 0) :
    Calls Tryz.prog 153 #[v] w fun e w' => e = .returned (.string ⟨(Lib.decDigits 0).toArray⟩) ∧ Below w.heap.size w w' := by
  have C0 : ∀ W : World, Below w.heap.size w W → Calls Tryz.prog 150 #[v] W fun e w' => e = .returned (.bool true) ∧ Below W.heap.size W w' := fun W hW => isZero_any 0 v W (hv.mono hW)
  obtain ⟨ao, c, rfl, -⟩ := hv
  generalize (limbs 0).length = n at *
  go_enter Tryz.func153, Tryz.ntmps153
  have A : Below w.heap.size w (w.alloc (Obj.cells #[Value.slice ao n c] 79)) := (Below.refl _ _).alloc (Nat.le_refl _) _
  go_wp2_with (go_at_call 150; refine (C0 _ A).mono ?_; rintro e w1 ⟨rfl, hnx1⟩; refine Hid.out ?_)
  refine Lib.hid ?_
  go_wp2
  go_ret
  exact ⟨by rw [dec0]; rfl, Below.chain A hnx1⟩

set_option maxHeartbeats 2000000 in
theorem text_pos (x : Nat) (v : Value) (w : World) (hx0 : x ≠ 0) (hv : NumAt w v x) (hlen : (limbs x).length ≤ 1000000000000) (htab : Lib.TabIs Tryz.prog w "internal/strconv.uint64pow10" .u64 Lib.pow10Tab) :
    Calls Tryz.prog 153 #[v] w fun e w' => e = .returned (.string ⟨(Lib.decDigits x).toArray⟩) ∧ Below w.heap.size w w' := by
  obtain ⟨i0, hi, hz0, hz1, hz2⟩ := info_parts infoU8
  have C0 : ∀ W : World, Below w.heap.size w W → Calls Tryz.prog 150 #[v] W fun e w' => e = .returned (.bool false) ∧ Below W.heap.size W w' := fun W hW => by
    have := isZero_any x v W (hv.mono hW)
    rwa [decide_eq_false hx0] at this
  have hT := Lib.tabBelow_of_tabIs htab
  obtain ⟨ao, c, rfl, hr⟩ := hv
  have hs := limbs_small x
  have hno := limbs_norm x
  have hval := val_limbs x
  have hne : limbs x ≠ [] := fun h => hx0 (limbs_nil_iff.1 h)
  generalize limbs x = X at *
  obtain ⟨b, off, rfl⟩ := hr.addr hne
  have hn0 : 0 < X.length := List.length_pos_iff.2 hne
  have HR := Lib.hid hr; have HS := Lib.hid hs; have HNO := Lib.hid hno; have HV := Lib.hid hval; have HC0 := Lib.hid C0; have HT := Lib.hid hT
  clear hr hs hno hval C0 hT htab hne
  obtain ⟨m, hn⟩ : ∃ m, X.length = m + 1 := ⟨X.length - 1, by omega⟩
  rw [hn] at hlen hn0 HC0 ⊢
  have HN := Lib.hid hn
  clear hn hn0
  go_enter Tryz.func153, Tryz.ntmps153
  have A : Below w.heap.size w (w.alloc (Obj.cells #[Value.slice (some ⟨b, off, none⟩) (m + 1 : Nat) c] 79)) := (Below.refl _ _).alloc (Nat.le_refl _) _
  have cA : (w.alloc (Obj.cells #[Value.slice (some ⟨b, off, none⟩) (m + 1 : Nat) c] 79)).cell? ⟨w.heap.size, 0, none⟩ = some (Value.slice (some ⟨b, off, none⟩) (m + 1 : Nat) c) := by go_cell
  have sA : w.heap.size < (w.alloc (Obj.cells #[Value.slice (some ⟨b, off, none⟩) (m + 1 : Nat) c] 79)).heap.size := by simp
  go_wp2_with (go_at_call 150; refine (HC0.out _ A).mono ?_; rintro e w1 ⟨rfl, hnx1⟩; refine Hid.out ?_)
  have A1 := Below.chain A hnx1
  have c1 := (hnx1.cell (p := ⟨w.heap.size, 0, none⟩) (by simp)).trans cA
  have s1 := Nat.lt_of_lt_of_le sA hnx1.size
  clear A cA sA hnx1
  refine Lib.hid ?_
  go_wp2_with (at_make; refine wpList_make_own _ rfl _ _ 127 rfl (w.heap.size + 1) 5 i0 (.int .u8 0) 1 Tryz.underlying127 hi hz0 hz1 .i64 .i64 _ (9 * (m + 1)) rfl rfl ?a1 ?a2 ?a3 ?a4 ?_)
  case a1 => push_cast; rfl
  case a2 => rw [hz2]; omega
  case a3 => unfold maxLen; omega
  case a4 => omega
  intro W0 hown0 hg0
  have hb0 : Below (w.heap.size + 1) w1 W0 := (below_of_grown hg0).mono (by omega)
  clear hg0
  have c2 := (hb0.cell (p := ⟨w.heap.size, 0, none⟩) (by simp)).trans c1
  have cx := (HR.out.mono (A1.trans (hb0.mono (Nat.le_succ _)))).get m (by rw [HN.out]; omega)
  have hu : X.getD m 0 < 1000000000 := HS.out.getD m
  have s2 := Nat.lt_of_lt_of_le s1 hb0.size
  obtain ⟨u, hue⟩ : ∃ u, u = X.getD m 0 := ⟨_, rfl⟩
  rw [← hue] at cx hu
  have HU := Lib.hid hu; have HUE := Lib.hid hue; clear hue
  go_wp2_with (go_at_call 178; refine (appendUint_own (w.heap.size + 1) 0 u HU.out _ [] W0 hown0 (by omega) (by omega) ((HT.out.on A1).on (hb0.mono (Nat.le_succ _))).here).mono ?_; rintro e w2 ⟨v2, rfl, hown2, hnx2⟩; refine Hid.out ?_)
  refine Lib.hid ?_
  rw [Nat.zero_add, List.nil_append] at hown2
  have hN2 : (Lib.decDigits u).length ≤ 9 := decDigits_length_le u 9 (by decide) (by have := HU.out; omega)
  have e2 : Lib.decDigits u = Lib.decDigits (val (X.drop m)) := by
    have := text_top X (by rw [HN.out]; omega)
    rw [HN.out, Nat.add_sub_cancel] at this
    rw [this, HUE.out]
  rw [e2] at hown2 hN2
  have hbW := hb0.trans (hnx2.mono (Nat.le_refl _))
  generalize hL2 : (Lib.decDigits (val (X.drop m))).length = L2 at hown2 hN2
  have HOWN := Lib.hid hown2; clear hown2 hown0 c2 cx s2 hb0 hnx2 e2 hL2
  go_wp2_with fail
  go_loopw [4, 5] (fun tv iv wr => ∃ j L : Nat, j ≤ m ∧ L + 9 * j ≤ 9 * (m + 1) ∧ iv = .int .i64 ((j : Int) - 1) ∧ wr.ownsRow (w.heap.size + 1) 5 1 tv L (Lib.byteCells (Lib.decDigits (val (X.drop j)))) ∧ Below (w.heap.size + 1) w1 wr) (fun _ iv _ => (intOf iv + 1).toNat)
  case atStart => exact ⟨m, L2, Nat.le_refl _, by omega, rfl, HOWN.out, hbW⟩
  case round =>
    obtain ⟨j, L, hj, hL, rfl, hown, hbw⟩ := hrel
    have c3 := (hbw.cell (p := ⟨w.heap.size, 0, none⟩) (by simp)).trans c1
    have s3 := Nat.lt_of_lt_of_le s1 hbw.size
    rcases Nat.eq_zero_or_pos j with rfl | hj0
    · obtain ⟨l, hl⟩ : ∃ l, l = Lib.decDigits (val (X.drop 0)) := ⟨_, rfl⟩
      have hlx : l = Lib.decDigits x := by rw [hl, List.drop_zero, HV.out]
      have hlp : 0 < l.length := by rw [hl]; exact List.length_pos_iff.2 (decDigits_ne_nil _)
      rw [← hl] at hown
      have hLl : L = l.length := by have := hown.1; rw [byteCells_length] at this; omega
      subst hLl
      have HLX := Lib.hid hlx; clear hlx hl
      have HO := Lib.hid hown
      rcases hown.2 with ⟨-, h0⟩ | ⟨g, cap, cur, rfl, -, -, -, -, -, -⟩
      · omega
      have hcv := run_convert_bytes_back (P := Tryz.prog) wr 127 9 5 ⟨g, 0, none⟩ cap l Tryz.underlying127 Tryz.underlying5 Tryz.underlying9 (fun j hj => hown.cells (g := g) rfl j _ (by simp [Lib.byteCells, hj]))
      clear hown
      go_wp2
      go_ret
      exact ⟨by rw [← HLX.out]; rfl, A1.trans (hbw.mono (Nat.le_succ _))⟩
    · obtain ⟨k, rfl⟩ : ∃ k, j = k + 1 := ⟨j - 1, by omega⟩
      have cy := (HR.out.mono (A1.trans (hbw.mono (Nat.le_succ _)))).get k (by rw [HN.out]; omega)
      obtain ⟨y, hye⟩ : ∃ y, y = X.getD k 0 := ⟨_, rfl⟩
      have hy : y < 1000000000 := by rw [hye]; exact HS.out.getD k
      rw [← hye] at cy
      have HY := Lib.hid hy; have HYE := Lib.hid hye; clear hye
      have HO := Lib.hid hown; clear hown
      go_wp2_with (go_at_call 179; refine (appendLimb_own (w.heap.size + 1) L y HY.out _ _ wr HO.out (by omega) (by omega)).mono ?_; rintro e w3 ⟨v3, rfl, hown3, hnx3⟩; refine Hid.out ?_)
      refine Lib.hid ?_
      have hst : Lib.decDigits (val (X.drop k)) = Lib.decDigits (val (X.drop (k + 1))) ++ pre y 9 := by
        rw [HYE.out]; exact text_step X k (by rw [HN.out]; omega) HS.out (drop_pos X HNO.out (k + 1) (by rw [HN.out]; omega))
      rw [← byteCells_append, ← hst] at hown3
      have HO3 := Lib.hid hown3; clear hown3 hst
      have hb3 := hbw.trans (hnx3.mono (Nat.le_refl _))
      go_wp2
      go_roundw
      case rel => exact ⟨k, L + 9, by omega, by omega, rfl, HO3.out, hb3⟩
      case measure => simp only [intOf]; omega

theorem text_any (x : Nat) (v : Value) (w : World) (hv : NumAt w v x) (hlen : (limbs x).length ≤ 1000000000000) (htab : Lib.TabIs Tryz.prog w "internal/strconv.uint64pow10" .u64 Lib.pow10Tab) :
    Calls Tryz.prog 153 #[v] w fun e w' => e = .returned (.string ⟨(Lib.decDigits x).toArray⟩) ∧ Below w.heap.size w w' := by
  by_cases h : x = 0
  · subst h; exact text_zero v w hv
  · exact text_pos x v w h hv hlen htab
end Go.Proofs.YtipnnmbjkpidoaaGreatDoor

/-
  natural.GcdWords.
-/
namespace Go.Proofs.YtipnnmbjkpidoaaGreatDoor
open Go Go.Proofs Go.RowKit

set_option maxHeartbeats 1000000 in
theorem gcdWords_any (x y : Nat) (w : World) (hx : x < 18446744073709551616) (hy : y < 18446744073709551616) :
    Calls Tryz.prog 148 #[.int .u64 x, .int .u64 y] w fun e w' => e = .returned (.int .u64 (Nat.gcd x y : Nat)) ∧ Below w.heap.size w w' := by
  have HX := Lib.hid hx; have HY := Lib.hid hy; clear hx hy
  go_enter Tryz.func148, Tryz.ntmps148
  go_wp2_with fail
  go_loopw [0, 1] (fun a b wr => ∃ p q : Nat, p < 18446744073709551616 ∧ q < 18446744073709551616 ∧ a = .int .u64 p ∧ b = .int .u64 q ∧ Nat.gcd p q = Nat.gcd x y ∧ Below w.heap.size w wr) (fun _ b _ => (intOf b).toNat)
  case atStart => exact ⟨x, y, HX.out, HY.out, rfl, rfl, rfl, Below.refl _ _⟩
  case round =>
    obtain ⟨p, q, hp, hq, rfl, rfl, hg, hbw⟩ := hrel
    have HG := Lib.hid hg; clear hg
    have HP := Lib.hid hp; have HQ := Lib.hid hq
    rcases Nat.eq_zero_or_pos q with rfl | hq0
    · clear hp hq
      go_wp2
      refine bodyPost_ret (by simp [results, Tryz.results148, go_sem]; rfl) rfl ⟨?_, hbw⟩
      rw [← HG.out, Nat.gcd_zero_right]
    · go_wp2_with fail
      go_region
      all_goals go_wp2
      refine ⟨⟨q, p % q, HQ.out, Nat.lt_of_le_of_lt (Nat.mod_le _ _) HP.out, rfl, rfl, ?_, hbw.drew⟩, ?_⟩
      · rw [← HG.out, Nat.gcd_comm p q, Nat.gcd_rec q p, Nat.gcd_comm]
      · have := Nat.mod_lt p hq0
        simp only [intOf]
        omega
end Go.Proofs.YtipnnmbjkpidoaaGreatDoor
