import Derived.Laws.IdiomStrings
import Derived.Test.YtmnbjkbkjmgmkaaGreatDoorCut4
import Derived.RegionTactic
import Derived.StillTailTactics
import Derived.Deep.RegionWith
import Derived.Lib.ParseIntB
import Derived.Lib.AtoiErrMem
import Derived.Lib.QuietBelow
import Derived.Test.YtmnbjkbkjmgmkaaGreatDoorCut1

set_option linter.unusedVariables false
/-
  natural.Text.
-/
set_option linter.unusedSimpArgs false
set_option linter.unusedVariables false
namespace Go.Proofs.YtmnbjkbkjmgmkaaGreatDoor
open Go Go.Proofs Go.RowKit
theorem dec0 : Lib.decDigits 0 = [48] := (eq_decDigits (l := [48]) (by intro c hc; simp at hc; subst hc; rfl) (by simp) (.inl rfl)).symm
theorem text_zero (v : Value) (w : World) (hv : NumAt w v 0) :
    Calls Tryz.prog 88 #[v] w fun e w' => e = .returned (.string ⟨(Lib.decDigits 0).toArray⟩) ∧ Below w.heap.size w w' := by
  have C0 : ∀ W : World, Below w.heap.size w W → Calls Tryz.prog 90 #[v] W fun e w' => e = .returned (.bool true) ∧ Below W.heap.size W w' := fun W hW => isZero_any 0 v W (hv.mono hW)
  obtain ⟨ao, c, rfl, -⟩ := hv
  generalize (limbs 0).length = n at *
  go_enter Tryz.func88, Tryz.ntmps88
  have A : Below w.heap.size w (w.alloc (Obj.cells #[Value.slice ao n c] 71)) := (Below.refl _ _).alloc (Nat.le_refl _) _
  go_wp2_with (go_at_call 90; refine (C0 _ A).mono ?_; rintro e w1 ⟨rfl, hnx1⟩; refine Hid.out ?_)
  refine Lib.hid ?_
  go_wp2
  go_ret
  exact ⟨by rw [dec0]; rfl, Below.chain A hnx1⟩
set_option maxHeartbeats 2000000 in
theorem text_pos (x : Nat) (v : Value) (w : World) (hx0 : x ≠ 0) (hv : NumAt w v x) (hlen : (limbs x).length ≤ 1000000000000) (htab : Lib.TabIs Tryz.prog w "internal/strconv.uint64pow10" .u64 Lib.pow10Tab) :
    Calls Tryz.prog 88 #[v] w fun e w' => e = .returned (.string ⟨(Lib.decDigits x).toArray⟩) ∧ Below w.heap.size w w' := by
  obtain ⟨i0, hi, hz0, hz1, hz2⟩ := info_parts infoU8
  have C0 : ∀ W : World, Below w.heap.size w W → Calls Tryz.prog 90 #[v] W fun e w' => e = .returned (.bool false) ∧ Below W.heap.size W w' := fun W hW => by
    have := isZero_any x v W (hv.mono hW)
    rwa [decide_eq_false hx0] at this
  have hT := Lib.tabBelow_of_tabIs htab
  obtain ⟨ao, c, rfl, hr⟩ := hv
  have hs := limbs_small x
  have hno := limbs_norm x
  have hval := val_limbs x
  have hne : limbs x ≠ [] := fun h => hx0 (limbs_nil_iff.1 h)
  generalize limbs x = X at *
  obtain ⟨b, off, rfl⟩ := hr.addr hne
  have hn0 : 0 < X.length := List.length_pos_iff.2 hne
  have HR := Lib.hid hr; have HS := Lib.hid hs; have HNO := Lib.hid hno; have HV := Lib.hid hval; have HC0 := Lib.hid C0; have HT := Lib.hid hT
  clear hr hs hno hval C0 hT htab hne
  obtain ⟨m, hn⟩ : ∃ m, X.length = m + 1 := ⟨X.length - 1, by omega⟩
  rw [hn] at hlen hn0 HC0 ⊢
  have HN := Lib.hid hn
  clear hn hn0
  go_enter Tryz.func88, Tryz.ntmps88
  have A : Below w.heap.size w (w.alloc (Obj.cells #[Value.slice (some ⟨b, off, none⟩) (m + 1 : Nat) c] 71)) := (Below.refl _ _).alloc (Nat.le_refl _) _
  have cA : (w.alloc (Obj.cells #[Value.slice (some ⟨b, off, none⟩) (m + 1 : Nat) c] 71)).cell? ⟨w.heap.size, 0, none⟩ = some (Value.slice (some ⟨b, off, none⟩) (m + 1 : Nat) c) := by go_cell
  have sA : w.heap.size < (w.alloc (Obj.cells #[Value.slice (some ⟨b, off, none⟩) (m + 1 : Nat) c] 71)).heap.size := by simp
  go_wp2_with (go_at_call 90; refine (HC0.out _ A).mono ?_; rintro e w1 ⟨rfl, hnx1⟩; refine Hid.out ?_)
  have A1 := Below.chain A hnx1
  have c1 := (hnx1.cell (p := ⟨w.heap.size, 0, none⟩) (by simp)).trans cA
  have s1 := Nat.lt_of_lt_of_le sA hnx1.size
  clear A cA sA hnx1
  refine Lib.hid ?_
  go_wp2_with (at_make; refine wpList_make_own _ rfl _ _ 108 rfl (w.heap.size + 1) 5 i0 (.int .u8 0) 1 Tryz.underlying108 hi hz0 hz1 .i64 .i64 _ (9 * (m + 1)) rfl rfl ?a1 ?a2 ?a3 ?a4 ?_)
  case a1 => push_cast; rfl
  case a2 => rw [hz2]; omega
  case a3 => unfold maxLen; omega
  case a4 => omega
  intro W0 hown0 hg0
  have hb0 : Below (w.heap.size + 1) w1 W0 := (below_of_grown hg0).mono (by omega)
  clear hg0
  have c2 := (hb0.cell (p := ⟨w.heap.size, 0, none⟩) (by simp)).trans c1
  have cx := (HR.out.mono (A1.trans (hb0.mono (Nat.le_succ _)))).get m (by rw [HN.out]; omega)
  have hu : X.getD m 0 < 1000000000 := HS.out.getD m
  have s2 := Nat.lt_of_lt_of_le s1 hb0.size
  obtain ⟨u, hue⟩ : ∃ u, u = X.getD m 0 := ⟨_, rfl⟩
  rw [← hue] at cx hu
  have HU := Lib.hid hu; have HUE := Lib.hid hue; clear hue
  go_wp2_with (go_at_call 108; refine (appendUint_own (w.heap.size + 1) 0 u HU.out _ [] W0 hown0 (by omega) (by omega) ((HT.out.on A1).on (hb0.mono (Nat.le_succ _))).here).mono ?_; rintro e w2 ⟨v2, rfl, hown2, hnx2⟩; refine Hid.out ?_)
  refine Lib.hid ?_
  rw [Nat.zero_add, List.nil_append] at hown2
  have hN2 : (Lib.decDigits u).length ≤ 9 := decDigits_length_le u 9 (by decide) (by have := HU.out; omega)
  have e2 : Lib.decDigits u = Lib.decDigits (val (X.drop m)) := by
    have := text_top X (by rw [HN.out]; omega)
    rw [HN.out, Nat.add_sub_cancel] at this
    rw [this, HUE.out]
  rw [e2] at hown2 hN2
  have hbW := hb0.trans (hnx2.mono (Nat.le_refl _))
  generalize hL2 : (Lib.decDigits (val (X.drop m))).length = L2 at hown2 hN2
  have HOWN := Lib.hid hown2; clear hown2 hown0 c2 cx s2 hb0 hnx2 e2 hL2
  go_wp2_with fail
  go_loopw [4, 5] (fun tv iv wr => ∃ j L : Nat, j ≤ m ∧ L + 9 * j ≤ 9 * (m + 1) ∧ iv = .int .i64 ((j : Int) - 1) ∧ wr.ownsRow (w.heap.size + 1) 5 1 tv L (Lib.byteCells (Lib.decDigits (val (X.drop j)))) ∧ Below (w.heap.size + 1) w1 wr) (fun _ iv _ => (intOf iv + 1).toNat)
  case atStart => exact ⟨m, L2, Nat.le_refl _, by omega, rfl, HOWN.out, hbW⟩
  case round =>
    obtain ⟨j, L, hj, hL, rfl, hown, hbw⟩ := hrel
    have c3 := (hbw.cell (p := ⟨w.heap.size, 0, none⟩) (by simp)).trans c1
    have s3 := Nat.lt_of_lt_of_le s1 hbw.size
    rcases Nat.eq_zero_or_pos j with rfl | hj0
    · obtain ⟨l, hl⟩ : ∃ l, l = Lib.decDigits (val (X.drop 0)) := ⟨_, rfl⟩
      have hlx : l = Lib.decDigits x := by rw [hl, List.drop_zero, HV.out]
      have hlp : 0 < l.length := by rw [hl]; exact List.length_pos_iff.2 (decDigits_ne_nil _)
      rw [← hl] at hown
      have hLl : L = l.length := by have := hown.1; rw [byteCells_length] at this; omega
      subst hLl
      have HLX := Lib.hid hlx; clear hlx hl
      have HO := Lib.hid hown
      rcases hown.2 with ⟨-, h0⟩ | ⟨g, cap, cur, rfl, -, -, -, -, -, -⟩
      · omega
      have hcv := run_convert_bytes_back (P := Tryz.prog) wr 108 9 5 ⟨g, 0, none⟩ cap l Tryz.underlying108 Tryz.underlying5 Tryz.underlying9 (fun j hj => hown.cells (g := g) rfl j _ (by simp [Lib.byteCells, hj]))
      clear hown
      go_wp2
      go_ret
      exact ⟨by rw [← HLX.out]; rfl, A1.trans (hbw.mono (Nat.le_succ _))⟩
    · obtain ⟨k, rfl⟩ : ∃ k, j = k + 1 := ⟨j - 1, by omega⟩
      have cy := (HR.out.mono (A1.trans (hbw.mono (Nat.le_succ _)))).get k (by rw [HN.out]; omega)
      obtain ⟨y, hye⟩ : ∃ y, y = X.getD k 0 := ⟨_, rfl⟩
      have hy : y < 1000000000 := by rw [hye]; exact HS.out.getD k
      rw [← hye] at cy
      have HY := Lib.hid hy; have HYE := Lib.hid hye; clear hye
      have HO := Lib.hid hown; clear hown
      go_wp2_with (go_at_call 109; refine (appendLimb_own (w.heap.size + 1) L y HY.out _ _ wr HO.out (by omega) (by omega)).mono ?_; rintro e w3 ⟨v3, rfl, hown3, hnx3⟩; refine Hid.out ?_)
      refine Lib.hid ?_
      have hst : Lib.decDigits (val (X.drop k)) = Lib.decDigits (val (X.drop (k + 1))) ++ pre y 9 := by
        rw [HYE.out]; exact text_step X k (by rw [HN.out]; omega) HS.out (drop_pos X HNO.out (k + 1) (by rw [HN.out]; omega))
      rw [← byteCells_append, ← hst] at hown3
      have HO3 := Lib.hid hown3; clear hown3 hst
      have hb3 := hbw.trans (hnx3.mono (Nat.le_refl _))
      go_wp2
      go_roundw
      case rel => exact ⟨k, L + 9, by omega, by omega, rfl, HO3.out, hb3⟩
      case measure => simp only [intOf]; omega
theorem text_any (x : Nat) (v : Value) (w : World) (hv : NumAt w v x) (hlen : (limbs x).length ≤ 1000000000000) (htab : Lib.TabIs Tryz.prog w "internal/strconv.uint64pow10" .u64 Lib.pow10Tab) :
    Calls Tryz.prog 88 #[v] w fun e w' => e = .returned (.string ⟨(Lib.decDigits x).toArray⟩) ∧ Below w.heap.size w w' := by
  by_cases h : x = 0
  · subst h; exact text_zero v w hv
  · exact text_pos x v w h hv hlen htab
def IntAt (w : World) (v : Value) (z : Int) : Prop := ∃ ao c, v = .agg #[.bool (decide (z < 0)), .slice ao (limbs z.natAbs).length c] ∧ RowAt w ao c (limbs z.natAbs)
theorem IntAt.mono {w w' : World} {v : Value} {z : Int} (h : IntAt w v z) (hb : Below w.heap.size w w') : IntAt w' v z := by
  obtain ⟨ao, c, rfl, hr⟩ := h
  exact ⟨ao, c, rfl, hr.mono hb⟩
theorem decDigits_limbs (x : Nat) : (Lib.decDigits x).length ≤ 9 * (limbs x).length + 1 := by
  refine decDigits_length_le x _ (by omega) (Nat.lt_of_lt_of_le (lt_pow_limbs x) ?_)
  rw [show (1000000000 : Nat) = 10 ^ 9 from rfl, ← Nat.pow_mul]
  exact Nat.pow_le_pow_right (by decide) (by omega)
set_option maxHeartbeats 1000000 in
theorem textZ_any (z : Int) (v : Value) (w : World) (hv : IntAt w v z) (hlen : (limbs z.natAbs).length ≤ 1000000000000) (htab : Lib.TabIs Tryz.prog w "internal/strconv.uint64pow10" .u64 Lib.pow10Tab) :
    Calls Tryz.prog 56 #[v] w fun e w' => e = .returned (.string (str (Lib.itoa z))) ∧ Below w.heap.size w w' := by
  obtain ⟨ao, c, rfl, hr⟩ := hv
  have hT := Lib.tabBelow_of_tabIs htab
  have C : ∀ W : World, Below w.heap.size w W → Calls Tryz.prog 88 #[.agg #[.slice ao (limbs z.natAbs).length c]] W fun e w' => e = .returned (.string (str (Lib.decDigits z.natAbs))) ∧ Below W.heap.size W w' :=
    fun W hW => text_any z.natAbs _ W ⟨ao, c, rfl, hr.mono hW⟩ hlen (hT.on hW).here
  have hi : str (Lib.itoa z) = if decide (z < 0) = true then (⟨#[45]⟩ : ByteArray) ++ str (Lib.decDigits z.natAbs) else str (Lib.decDigits z.natAbs) := by
    by_cases h : z < 0
    · rw [decide_eq_true h, if_pos rfl, itoa_neg h]
      apply ByteArray.ext
      simp [str]
    · rw [decide_eq_false h, if_neg (by simp), itoa_nonneg h]
  have HI := Lib.hid hi; have HC := Lib.hid C
  have hds : (str (Lib.decDigits z.natAbs)).size ≤ 9000000000001 := by
    rw [str_size]; have := decDigits_limbs z.natAbs; omega
  clear hi C hT htab hr hlen
  generalize str (Lib.itoa z) = r at *
  generalize str (Lib.decDigits z.natAbs) = d at *
  generalize (limbs z.natAbs).length = n at *
  generalize decide (z < 0) = b at *
  have A : Below w.heap.size w (w.alloc (Obj.cells #[.bool b, .slice ao n c] 73)) := (Below.refl _ _).alloc (Nat.le_refl _) _
  have cA : (w.alloc (Obj.cells #[.bool b, .slice ao n c] 73)).cell? ⟨w.heap.size, 0, none⟩ = some (Value.bool b) := by go_cell
  have sA : w.heap.size < (w.alloc (Obj.cells #[.bool b, .slice ao n c] 73)).heap.size := by simp
  have HA := Lib.hid A; have HCA := Lib.hid cA; have HSA := Lib.hid sA
  clear A cA sA
  cases b
  · have hr : r = d := HI.out
    subst hr; clear HI
    go_enter Tryz.func56, Tryz.ntmps56
    go_wp2_with (go_at_call 88; refine (HC.out _ HA.out).mono ?_; rintro e w1 ⟨rfl, hb1⟩; refine Hid.out ?_)
    have hb := Below.chain HA.out hb1
    have c1 := (hb1.cell (p := ⟨w.heap.size, 0, none⟩) HSA.out).trans HCA.out
    refine Lib.hid ?_
    clear hb1
    go_wp2
    go_ret
    exact ⟨rfl, hb⟩
  · have hr : r = ⟨#[45]⟩ ++ d := HI.out
    have HR := Lib.hid hr; clear hr HI
    go_enter Tryz.func56, Tryz.ntmps56
    go_wp2_with (go_at_call 88; refine (HC.out _ HA.out).mono ?_; rintro e w1 ⟨rfl, hb1⟩; refine Hid.out ?_)
    have hb := Below.chain HA.out hb1
    have c1 := (hb1.cell (p := ⟨w.heap.size, 0, none⟩) HSA.out).trans HCA.out
    refine Lib.hid ?_
    clear hb1
    go_wp2
    go_ret
    exact ⟨by rw [HR.out]; rfl, hb⟩
theorem digB_decDigits (u : Nat) : digB (Lib.decDigits u) = true := by
  unfold digB
  rw [Bool.and_eq_true]
  refine ⟨?_, List.all_eq_true.2 (allDig_decDigits u)⟩
  cases he : (Lib.decDigits u).isEmpty
  · rfl
  · exact absurd (List.isEmpty_iff.1 he) (decDigits_ne_nil _)
theorem RowAt.boxV {w : World} {ao : Option Addr} {c : Nat} {l : List Nat} (h : RowAt w ao c l) {p : Addr} (hp : ∀ k : Int, w.cell? p ≠ some (.int .u32 k)) (u : Value) : RowAt (w.setCell p u) ao c l := by
  obtain ⟨h1, h2, h3⟩ := h
  refine ⟨h1, h2, ?_⟩
  rcases h3 with h3 | ⟨b, off, he, hlt, hc⟩
  · exact .inl h3
  · refine .inr ⟨b, off, he, by simpa [World.setCell] using hlt, fun k hk => ?_⟩
    have h4 := hc k hk
    rw [World.cell?_setCell_other (h := fun e => hp _ (by rw [e]; exact h4))]
    exact h4
set_option maxHeartbeats 1000000 in
theorem parseZ_any (s : ByteArray) (z : Int) (w : World) (hz : bytes s = Lib.itoa z) (hs : s.size ≤ 1000000000000) :
    Calls Tryz.prog 55 #[.string s] w fun e w' => ∃ v, e = .returned v ∧ IntAt w' v z ∧ Below w.heap.size w w' := by
  have C1 := digits_any s
  have C2 := isNegative_any s
  rw [hz, digL_itoa] at C1
  rw [hz, negB_itoa] at C2
  have C3 := fun W => parse_good (str (Lib.decDigits z.natAbs)) W
    (by rw [str_size]; have := digL_le (bytes s); rw [hz, digL_itoa, ← hz] at this; exact Nat.le_trans this hs) (by rw [bytes_str]; exact digB_decDigits _)
  rw [bytes_str, dec_decDigits] at C3
  have HC1 := Lib.hid C1; have HC2 := Lib.hid C2; have HC3 := Lib.hid C3
  clear C1 C2 C3 hz hs
  unfold IntAt
  generalize str (Lib.decDigits z.natAbs) = d at *
  generalize decide (z < 0) = b at *
  generalize z.natAbs = x at *
  go_enter Tryz.func55, Tryz.ntmps55
  go_wp2_with (go_at_call 84; refine (HC1.out _).mono ?_; rintro e w1 ⟨rfl, rfl⟩; refine Hid.out ?_)
  refine Lib.hid ?_
  go_wp2_with (go_at_call 86; refine (HC3.out _).mono ?_; rintro e w2 ⟨v2, rfl, hv2, hb2⟩; refine Hid.out ?_)
  obtain ⟨ao, c, rfl, hr2⟩ := hv2
  have HR2 := Lib.hid hr2; clear hr2
  have c0 : (w.alloc (Obj.cells #[Value.bool false, Value.slice none 0 0] 73)).cell? ⟨w.heap.size, 0, none⟩ = some (Value.bool false) := by go_cell
  have c1 : (w.alloc (Obj.cells #[Value.bool false, Value.slice none 0 0] 73)).cell? ⟨w.heap.size, 1, none⟩ = some (Value.slice none 0 0) := by go_cell
  have f0 : (w.alloc (Obj.cells #[Value.bool false, Value.slice none 0 0] 73)).frozen? ⟨w.heap.size, 0, none⟩ = false := by go_cell
  have f1 : (w.alloc (Obj.cells #[Value.bool false, Value.slice none 0 0] 73)).frozen? ⟨w.heap.size, 1, none⟩ = false := by go_cell
  have s0 : w.heap.size < (w.alloc (Obj.cells #[Value.bool false, Value.slice none 0 0] 73)).heap.size := by simp
  have B0 : Below w.heap.size w (w.alloc (Obj.cells #[Value.bool false, Value.slice none 0 0] 73)) := (Below.refl _ _).alloc (Nat.le_refl _) _
  generalize w.alloc (Obj.cells #[Value.bool false, Value.slice none 0 0] 73) = W0 at *
  have d0 := (hb2.cell (p := ⟨w.heap.size, 0, none⟩) s0).trans c0
  have d1 := (hb2.cell (p := ⟨w.heap.size, 1, none⟩) s0).trans c1
  have g0 := (hb2.frozen (p := ⟨w.heap.size, 0, none⟩) s0).trans f0
  have g1 := (hb2.frozen (p := ⟨w.heap.size, 1, none⟩) s0).trans f1
  have s2 := Nat.lt_of_lt_of_le s0 hb2.size
  have B2 := Below.chain B0 hb2
  clear c0 c1 f0 f1 s0 B0 hb2
  have HB2 := Lib.hid B2; clear B2
  refine Lib.hid ?_
  go_wp2_with fail
  have e0 : (w2.alloc (Obj.cells #[Value.slice ao (limbs x).length c] 71)).cell? ⟨w.heap.size, 0, none⟩ = some (Value.bool false) := by go_cell
  have e1 : (w2.alloc (Obj.cells #[Value.slice ao (limbs x).length c] 71)).cell? ⟨w.heap.size, 1, none⟩ = some (Value.slice none 0 0) := by go_cell
  have e2 : (w2.alloc (Obj.cells #[Value.slice ao (limbs x).length c] 71)).cell? ⟨w2.heap.size, 0, none⟩ = some (Value.slice ao (limbs x).length c) := by go_cell
  have h0 : (w2.alloc (Obj.cells #[Value.slice ao (limbs x).length c] 71)).frozen? ⟨w.heap.size, 0, none⟩ = false := by go_cell
  have h1 : (w2.alloc (Obj.cells #[Value.slice ao (limbs x).length c] 71)).frozen? ⟨w.heap.size, 1, none⟩ = false := by go_cell
  have s3 : w.heap.size < (w2.alloc (Obj.cells #[Value.slice ao (limbs x).length c] 71)).heap.size := by simp; omega
  have B3 := (HB2.out.alloc (Nat.le_of_lt s2) (Obj.cells #[Value.slice ao (limbs x).length c] 71))
  have hr3 := HR2.out.mono ((Below.refl _ _).alloc (Nat.le_refl _) (Obj.cells #[Value.slice ao (limbs x).length c] 71))
  generalize hW : w2.alloc (Obj.cells #[Value.slice ao (limbs x).length c] 71) = W at *
  have HB3 := Lib.hid B3; have HR3 := Lib.hid hr3
  clear hW HR2 HB2 B3 hr3 d0 d1 g0 g1
  generalize hn : (limbs x).length = n at *
  have HN := Lib.hid hn; clear hn
  go_region_with (go_at_call 87; refine (HC2.out _).mono ?_; rintro e w4 ⟨rfl, rfl⟩)
  all_goals
    have q0 : ((W.setCell ⟨w.heap.size, 0, none⟩ (Value.bool b)).setCell ⟨w.heap.size, 1, none⟩ (Value.slice ao n c)).cell? ⟨w.heap.size, 0, none⟩ = some (Value.bool b) := by
      rw [World.cell?_setCell_other (h := by simp)]; exact cellSet e0 _
    have q1 : ((W.setCell ⟨w.heap.size, 0, none⟩ (Value.bool b)).setCell ⟨w.heap.size, 1, none⟩ (Value.slice ao n c)).cell? ⟨w.heap.size, 1, none⟩ = some (Value.slice ao n c) :=
      cellSet (u := Value.slice none 0 0) (by rw [World.cell?_setCell_other (h := by simp)]; exact e1) _
    go_wp2
    refine bodyPost_ret (v := .agg #[.bool b, .slice ao n c]) (by simp [results, Tryz.results55, go_sem, q0, q1]) rfl ?_
    refine ⟨_, rfl, ⟨ao, c, by rw [HN.out], ?_⟩, ?_⟩
    · refine RowAt.mono ?_ ((Below.refl _ _).drew)
      refine RowAt.boxV (RowAt.boxV HR3.out (fun k => ?_) _) (fun k => ?_) _
      · rw [e0]; simp
      · rw [World.cell?_setCell_other (h := by simp), e1]; simp
    · exact ((HB3.out.setCell (p := ⟨w.heap.size, 0, none⟩) (Nat.le_refl _) _).setCell (p := ⟨w.heap.size, 1, none⟩) (Nat.le_refl _) _).drew
theorem parseUintM_dec (M : Nat) (hM : 1000000000000000000 ≤ M) : ∀ (l : List UInt8) (acc : Nat), AllDig l → acc * 10 ^ l.length + dec l < 1000000000000000000 → Lib.parseUintM M acc l = .ok (acc * 10 ^ l.length + dec l)
  | [], acc, _, _ => by simp [Lib.parseUintM, dec]
  | c :: t, acc, h, hb => by
    have hc := isDig_iff.1 (h c (List.mem_cons_self ..))
    have ht : AllDig t := fun y hy => h y (List.mem_cons_of_mem _ hy)
    have e : acc * 10 ^ (c :: t).length + dec (c :: t) = (acc * 10 + (c.toNat - 48)) * 10 ^ t.length + dec t := by
      simp only [List.length_cons, dec, Nat.pow_succ]
      grind
    rw [e] at hb ⊢
    have hp : 1 ≤ 10 ^ t.length := Nat.pos_of_ne_zero (by simp)
    have h1 : acc * 10 + (c.toNat - 48) ≤ (acc * 10 + (c.toNat - 48)) * 10 ^ t.length := Nat.le_mul_of_pos_right _ hp
    unfold Lib.parseUintM
    rw [if_pos hc, if_neg (by omega), if_neg (by omega)]
    exact parseUintM_dec M hM t _ ht hb
theorem parseUintB_dec (u : Nat) (hu : u < 1000000000000000000) : Lib.parseUintB 64 (Lib.decDigits u) = .ok u := by
  unfold Lib.parseUintB
  rw [if_neg (decDigits_ne_nil u), parseUintM_dec _ (by decide) _ 0 (allDig_decDigits u) (by rw [dec_decDigits]; omega), dec_decDigits]
  simp
theorem parseIntB_itoa (z : Int) (hz : z.natAbs < 1000000000000000000) : Lib.parseIntB 64 (Lib.itoa z) = .ok z := by
  by_cases h : z < 0
  · rw [itoa_neg h]
    have h45 : (45 : UInt8).toNat = 45 := rfl
    unfold Lib.parseIntB
    simp only [h45, or_true, if_true, parseUintB_dec _ hz]
    rw [if_neg (by omega), if_neg (by omega)]
    congr 1; omega
  · rw [itoa_nonneg h]
    have hd := allDig_decDigits z.natAbs
    have hp := parseUintB_dec _ hz
    have hne := decDigits_ne_nil z.natAbs
    generalize Lib.decDigits z.natAbs = l at *
    match l, hd, hp, hne with
    | c :: t, hd, hp, _ =>
      have hc := isDig_iff.1 (hd c (List.mem_cons_self ..))
      unfold Lib.parseIntB
      have h1 : ¬ (c.toNat = 43 ∨ c.toNat = 45) := by omega
      have h2 : ¬ c.toNat = 45 := by omega
      have e : Lib.parseUintB 64 (if c.toNat = 43 ∨ c.toNat = 45 then t else c :: t) = .ok z.natAbs := by rw [if_neg h1]; exact hp
      simp only [e]
      simp only [h2, if_false, not_false_eq_true, true_and, false_and]
      rw [if_neg (by omega)]
      congr 1; omega
set_option maxHeartbeats 1000000 in
theorem wordZ_any (s : ByteArray) (z : Int) (w : World) (hz : bytes s = Lib.itoa z) (hs : s.size ≤ 1000000000000) (hzb : z.natAbs < 1000000000000000000) :
    Calls Tryz.prog 54 #[.string s] w fun e w' => e = .returned (.int .i64 z) ∧ Below w.heap.size w w' := by
  have C : ∀ W : World, Calls Tryz.prog 85 #[.string s, .int .i64 10, .int .i64 64] W fun e w' => e = .returned (.tuple #[.int .i64 z, .nilIface]) ∧ Below W.heap.size W w' := fun W =>
    (Tryz.strconv_ParseInt_10_at64_ok s (by omega) z (by show Lib.parseIntB 64 (bytes s) = _; rw [hz]; exact parseIntB_itoa z hzb) W).mono fun e w' h => by
      refine ⟨h.1, ?_⟩
      rcases h.2 with rfl | ⟨t, rfl⟩
      · exact Below.refl _ _
      · exact Lib.bytesWorld_below _ _ _
  clear hz hzb
  go_enter Tryz.func54, Tryz.ntmps54
  go_wp2_with (go_at_call 85; refine (C _).mono ?_; rintro e w1 ⟨rfl, hb1⟩; refine Hid.out ?_)
  refine Lib.hid ?_
  go_wp2
  go_ret
  exact ⟨rfl, hb1⟩
end Go.Proofs.YtmnbjkbkjmgmkaaGreatDoor

set_option linter.unusedSimpArgs false
set_option linter.unusedVariables false
namespace Go.Proofs.YtmnbjkbkjmgmkaaGreatDoor
open Go Go.Proofs Go.RowKit Go.Sort
def opV (fs fl : Nat) : Value := .agg #[.func (.func fs) #[] #[], .func (.func fl) #[] #[]]
structure Str (s : ByteArray) (z : Int) : Prop where
  text : bytes s = Lib.itoa z
  len : (Lib.decDigits z.natAbs).length ≤ 4096
theorem Str.err {s : ByteArray} {z : Int} (h : Str s z) : errOf (bytes s) = 0 := by rw [h.text]; exact errOf_itoa z h.len
theorem Str.size {s : ByteArray} {z : Int} (h : Str s z) : s.size ≤ 4097 := by
  have h1 : (bytes s).length = s.size := rfl
  rw [← h1, h.text]
  have := h.len
  by_cases hz : z < 0
  · rw [itoa_neg hz]; simp; omega
  · rw [itoa_nonneg hz]; omega
theorem Str.short {s : ByteArray} {z : Int} (h : Str s z) (hz : z.natAbs < 1000000000) : decide ((digL (bytes s)).length ≤ 9) = true := by
  rw [h.text, digL_itoa, decide_eq_true_eq]
  exact decDigits_length_le _ 9 (by decide) (by omega)
theorem Str.notShort {s : ByteArray} {z : Int} (h : Str s z) (hz : ¬ z.natAbs < 1000000000) : decide ((digL (bytes s)).length ≤ 9) = false := by
  rw [h.text, digL_itoa, decide_eq_false_iff_not]
  intro hl
  have h1 := dec_lt (allDig_decDigits z.natAbs)
  rw [dec_decDigits] at h1
  have : 10 ^ (Lib.decDigits z.natAbs).length ≤ 10 ^ 9 := Nat.pow_le_pow_right (by decide) hl
  omega
end Go.Proofs.YtmnbjkbkjmgmkaaGreatDoor

set_option linter.unusedSimpArgs false
set_option linter.unusedVariables false
namespace Go.Proofs.YtmnbjkbkjmgmkaaGreatDoor
open Go Go.Proofs Go.RowKit
structure Stored (w V : World) (B : Nat) (b : Bool) (ao : Option Addr) (n c : Nat) : Prop where
  q0 : ((V.setCell ⟨B, 0, none⟩ (.bool b)).setCell ⟨B, 1, none⟩ (.slice ao n c)).cell? ⟨B, 0, none⟩ = some (.bool b)
  q1 : ((V.setCell ⟨B, 0, none⟩ (.bool b)).setCell ⟨B, 1, none⟩ (.slice ao n c)).cell? ⟨B, 1, none⟩ = some (.slice ao n c)
  below : Below w.heap.size w ((V.setCell ⟨B, 0, none⟩ (.bool b)).setCell ⟨B, 1, none⟩ (.slice ao n c))
  row : ∀ (a2 : Option Addr) (c2 : Nat) (l : List Nat), RowAt V a2 c2 l → RowAt ((V.setCell ⟨B, 0, none⟩ (.bool b)).setCell ⟨B, 1, none⟩ (.slice ao n c)) a2 c2 l
theorem stored {w V : World} {B : Nat} {b0 : Bool} {a1 : Option Addr} {n1 c1 : Nat} (hB : w.heap.size ≤ B) (e0 : V.cell? ⟨B, 0, none⟩ = some (.bool b0)) (e1 : V.cell? ⟨B, 1, none⟩ = some (.slice a1 n1 c1)) (hb : Below w.heap.size w V) (b : Bool) (ao : Option Addr) (n c : Nat) : Stored w V B b ao n c where
  q0 := by rw [World.cell?_setCell_other (h := by simp)]; exact cellSet e0 _
  q1 := cellSet (u := .slice a1 n1 c1) (by rw [World.cell?_setCell_other (h := by simp)]; exact e1) _
  below := (hb.setCell (p := ⟨B, 0, none⟩) hB _).setCell (p := ⟨B, 1, none⟩) hB _
  row := fun a2 c2 l hr => by
    refine RowAt.boxV (RowAt.boxV hr (fun k => ?_) _) (fun k => ?_) _
    · rw [e0]; simp
    · rw [World.cell?_setCell_other (h := by simp), e1]; simp
structure MBox (w W : World) (B : Nat) (m : Value) : Prop where
  lt : B + 1 < W.heap.size
  c0 : W.cell? ⟨B, 0, none⟩ = some m
  r0 : W.cell? ⟨B + 1, 0, none⟩ = some (.bool false)
  r1 : W.cell? ⟨B + 1, 1, none⟩ = some (.slice none 0 0)
  f0 : W.frozen? ⟨B + 1, 0, none⟩ = false
  f1 : W.frozen? ⟨B + 1, 1, none⟩ = false
  below : Below w.heap.size w W
theorem MBox.mono {w W W' : World} {B : Nat} {m : Value} (h : MBox w W B m) (k : Below W.heap.size W W') : MBox w W' B m := by
  have hl := h.lt
  exact ⟨Nat.lt_of_lt_of_le hl k.size, (k.cell (p := ⟨B, 0, none⟩) (by simp; omega)).trans h.c0, (k.cell (p := ⟨B + 1, 0, none⟩) (by simp; omega)).trans h.r0, (k.cell (p := ⟨B + 1, 1, none⟩) (by simp; omega)).trans h.r1,
    (k.frozen (p := ⟨B + 1, 0, none⟩) (by simp; omega)).trans h.f0, (k.frozen (p := ⟨B + 1, 1, none⟩) (by simp; omega)).trans h.f1, Below.chain h.below k⟩
set_option maxHeartbeats 1000000 in
theorem plus_any (x : Nat) (v : Value) (w : World) (hv : NumAt w v x) :
    Calls Tryz.prog 59 #[v] w fun e w' => ∃ v', e = .returned v' ∧ IntAt w' v' (x : Int) ∧ Below w.heap.size w w' := by
  obtain ⟨ao, c, rfl, hr⟩ := hv
  have HR := Lib.hid hr; clear hr
  unfold IntAt
  rw [decide_eq_false (by omega : ¬ ((x : Int) < 0)), Int.natAbs_natCast]
  generalize hn : (limbs x).length = n
  have HN := Lib.hid hn; clear hn
  go_enter Tryz.func59, Tryz.ntmps59
  go_wp2
  refine bodyPost_ret (v := .agg #[.bool false, .slice ao n c]) (by simp [results, Tryz.results59, go_sem]) rfl ?_
  exact ⟨_, rfl, ⟨ao, c, rfl, HR.out.mono (by go_grown)⟩, by go_grown⟩
set_option maxHeartbeats 1000000 in
theorem minus_any (x : Nat) (v : Value) (w : World) (hv : NumAt w v x) :
    Calls Tryz.prog 62 #[v] w fun e w' => ∃ v', e = .returned v' ∧ IntAt w' v' (-(x : Int)) ∧ Below w.heap.size w w' := by
  have C : ∀ W : World, Below w.heap.size w W → Calls Tryz.prog 90 #[v] W fun e w' => e = .returned (.bool (decide (x = 0))) ∧ Below W.heap.size W w' := fun W hW => isZero_any x v W (hv.mono hW)
  obtain ⟨ao, c, rfl, hr⟩ := hv
  have HR := Lib.hid hr; have HC := Lib.hid C; clear hr C
  unfold IntAt
  rw [Int.natAbs_neg, Int.natAbs_natCast]
  have hd : decide (-(x : Int) < 0) = !decide (x = 0) := by
    by_cases h : x = 0
    · subst h; rfl
    · rw [decide_eq_false h, decide_eq_true (by omega)]; rfl
  rw [hd]
  generalize hn : (limbs x).length = n at *
  generalize decide (x = 0) = b at *
  have HN := Lib.hid hn; clear hn hd
  go_enter Tryz.func62, Tryz.ntmps62
  go_wp2_with fail
  have e0 : ((w.alloc (Obj.cells #[Value.slice ao n c] 71)).alloc (Obj.cells #[Value.bool false, Value.slice none 0 0] 73)).cell? ⟨w.heap.size + 1, 0, none⟩ = some (Value.bool false) := by go_cell
  have e1 : ((w.alloc (Obj.cells #[Value.slice ao n c] 71)).alloc (Obj.cells #[Value.bool false, Value.slice none 0 0] 73)).cell? ⟨w.heap.size + 1, 1, none⟩ = some (Value.slice none 0 0) := by go_cell
  have e2 : ((w.alloc (Obj.cells #[Value.slice ao n c] 71)).alloc (Obj.cells #[Value.bool false, Value.slice none 0 0] 73)).cell? ⟨w.heap.size, 0, none⟩ = some (Value.slice ao n c) := by go_cell
  have f0 : ((w.alloc (Obj.cells #[Value.slice ao n c] 71)).alloc (Obj.cells #[Value.bool false, Value.slice none 0 0] 73)).frozen? ⟨w.heap.size + 1, 0, none⟩ = false := by go_cell
  have f1 : ((w.alloc (Obj.cells #[Value.slice ao n c] 71)).alloc (Obj.cells #[Value.bool false, Value.slice none 0 0] 73)).frozen? ⟨w.heap.size + 1, 1, none⟩ = false := by go_cell
  have hb : Below w.heap.size w ((w.alloc (Obj.cells #[Value.slice ao n c] 71)).alloc (Obj.cells #[Value.bool false, Value.slice none 0 0] 73)) := by go_grown
  have hs : w.heap.size + 1 < ((w.alloc (Obj.cells #[Value.slice ao n c] 71)).alloc (Obj.cells #[Value.bool false, Value.slice none 0 0] 73)).heap.size := by simp
  generalize (w.alloc (Obj.cells #[Value.slice ao n c] 71)).alloc (Obj.cells #[Value.bool false, Value.slice none 0 0] 73) = W at *
  have MB : MBox w W (w.heap.size) (.slice ao n c) := ⟨hs, e2, e0, e1, f0, f1, hb⟩
  clear e0 e1 e2 f0 f1 hb hs
  have MD := MB.mono ((Below.refl _ _).drew)
  have j0 := MB.c0; have j1 := MB.r0; have j2 := MB.r1; have j3 := MB.f0; have j4 := MB.f1
  go_region_with (go_at_call 90; refine (HC.out _ MD.below).mono ?_; rintro e w4 ⟨rfl, hb4⟩; have M4 := MD.mono hb4; have k0 := M4.c0; have k1 := M4.r0; have k2 := M4.r1; have k3 := M4.f0; have k4 := M4.f1)
  all_goals
    have ST := stored (w := w) (V := w4) (Nat.le_succ w.heap.size) k1 k2 M4.below (!b) ao n c
    have q0 := ST.q0; have q1 := ST.q1
    go_wp2
    refine bodyPost_ret (v := .agg #[.bool (!b), .slice ao n c]) (by simp [results, Tryz.results62, go_sem, q0, q1]) rfl ?_
    exact ⟨_, rfl, ⟨ao, c, rfl, ST.row _ _ _ (HR.out.mono M4.below)⟩, ST.below⟩
end Go.Proofs.YtmnbjkbkjmgmkaaGreatDoor

set_option linter.unusedSimpArgs false
set_option linter.unusedVariables false
namespace Go.Proofs.YtmnbjkbkjmgmkaaGreatDoor
structure SubInv (x0 x y : List Nat) (t i q : Nat) : Prop where
  len : x.length = x0.length
  small : Small x
  rest : x.drop i = x0.drop i
  borrow : q ≤ t
  eq : val (x0.take i) + q * 1000000000 ^ i = val (x.take i) + t * val (y.take i)
theorem SubInv.start {x0 y : List Nat} {t : Nat} (hs : Small x0) : SubInv x0 x0 y t 0 0 :=
  ⟨rfl, hs, rfl, by omega, by simp [val]⟩
theorem getD_of_drop {a b : List Nat} {i : Nat} (h : a.drop i = b.drop i) : a.getD i 0 = b.getD i 0 := by
  have := congrArg (fun l => l[0]?) h
  simp only [List.getElem?_drop, Nat.add_zero] at this
  simp [List.getD_eq_getElem?_getD, this]
theorem drop_set_succ {a b : List Nat} {i v : Nat} (h : a.drop i = b.drop i) : (a.set i v).drop (i + 1) = b.drop (i + 1) := by
  rw [List.drop_set_of_lt (by omega)]
  have := congrArg (fun l => l.drop 1) h
  simpa [List.drop_drop, Nat.add_comm] using this
theorem SubInv.step {x0 x y : List Nat} {t i q : Nat} (h : SubInv x0 x y t i q) (hi : i < x0.length) (hy : Small y) :
    let p := q + t * y.getD i 0
    let low := p % 1000000000
    (x.getD i 0 < low → SubInv x0 (x.set i (x.getD i 0 + 1000000000 - low)) y t (i + 1) (p / 1000000000 + 1)) ∧
    (¬ x.getD i 0 < low → SubInv x0 (x.set i (x.getD i 0 - low)) y t (i + 1) (p / 1000000000)) := by
  intro p low
  have h1 := h.small.getD i; have h2 := hy.getD i; have h3 := h.borrow; have h4 := h.eq
  have e0 := getD_of_drop h.rest
  have hp : p ≤ t * 1000000000 := by
    have : t * y.getD i 0 ≤ t * 999999999 := Nat.mul_le_mul_left _ (by omega)
    show q + t * y.getD i 0 ≤ _
    omega
  have hd := Nat.div_add_mod p 1000000000
  have hlow : p % 1000000000 < 1000000000 := Nat.mod_lt _ (by decide)
  have hq1 : p / 1000000000 ≤ t := by omega
  have e1 : val (x0.take (i + 1)) = val (x0.take i) + x.getD i 0 * 1000000000 ^ i := by rw [val_take_getD, e0]
  have e2 : val (y.take (i + 1)) = val (y.take i) + y.getD i 0 * 1000000000 ^ i := val_take_getD y i
  have e3 : ∀ v, val ((x.set i v).take (i + 1)) = val (x.take i) + v * 1000000000 ^ i := fun v => val_set_take x i v (by rw [h.len]; exact hi)
  have e4 : p * 1000000000 ^ i = q * 1000000000 ^ i + t * (y.getD i 0 * 1000000000 ^ i) := by
    show (q + t * y.getD i 0) * _ = _
    grind
  have hlowe : low = p % 1000000000 := rfl
  clear_value p low
  constructor
  · intro hlt
    refine ⟨by simp [h.len], h.small.set _ _ (by omega), drop_set_succ h.rest, by omega, ?_⟩
    rw [e1, e2, e3, Nat.pow_succ, Nat.mul_add]
    generalize 1000000000 ^ i = P at *
    generalize x.getD i 0 = a at *
    obtain ⟨r, hr⟩ : ∃ r, a + 1000000000 = low + r := ⟨a + 1000000000 - low, by omega⟩
    have e5 : a + 1000000000 - low = r := by omega
    rw [e5]
    have e6 : (a + 1000000000) * P = (low + r) * P := by rw [hr]
    have e7 : (1000000000 * (p / 1000000000) + p % 1000000000) * P = p * P := by rw [hd]
    rw [hlowe] at e6
    generalize p / 1000000000 = u at *
    generalize p % 1000000000 = v at *
    grind
  · intro hlt
    refine ⟨by simp [h.len], h.small.set _ _ (by omega), drop_set_succ h.rest, by omega, ?_⟩
    rw [e1, e2, e3, Nat.pow_succ, Nat.mul_add]
    generalize 1000000000 ^ i = P at *
    generalize x.getD i 0 = a at *
    obtain ⟨r, hr⟩ : ∃ r, a = low + r := ⟨a - low, by omega⟩
    have e5 : a - low = r := by omega
    rw [e5]
    have e6 : a * P = (low + r) * P := by rw [hr]
    have e7 : (1000000000 * (p / 1000000000) + p % 1000000000) * P = p * P := by rw [hd]
    rw [hlowe] at e6
    generalize p / 1000000000 = u at *
    generalize p % 1000000000 = v at *
    grind
theorem SubInv.carry {x0 x y : List Nat} {t i q : Nat} (h : SubInv x0 x y t i q) (hi : i < x0.length) (hyi : y.length ≤ i) (ht : t < 1000000000) (hq : 0 < q) :
    (x.getD i 0 < q → SubInv x0 (x.set i (x.getD i 0 + 1000000000 - q)) y t (i + 1) 1) ∧
    (¬ x.getD i 0 < q → SubInv x0 (x.set i (x.getD i 0 - q)) y t (i + 1) 0) := by
  have h1 := h.small.getD i; have h3 := h.borrow; have h4 := h.eq
  have e0 := getD_of_drop h.rest
  have e1 : val (x0.take (i + 1)) = val (x0.take i) + x.getD i 0 * 1000000000 ^ i := by rw [val_take_getD, e0]
  have e2 : y.take (i + 1) = y.take i := by rw [List.take_of_length_le (by omega), List.take_of_length_le (by omega)]
  have e3 : ∀ v, val ((x.set i v).take (i + 1)) = val (x.take i) + v * 1000000000 ^ i := fun v => val_set_take x i v (by rw [h.len]; exact hi)
  constructor
  · intro hlt
    refine ⟨by simp [h.len], h.small.set _ _ (by omega), drop_set_succ h.rest, by omega, ?_⟩
    rw [e1, e2, e3, Nat.pow_succ]
    generalize 1000000000 ^ i = P at *
    generalize x.getD i 0 = a at *
    obtain ⟨r, hr⟩ : ∃ r, a + 1000000000 = q + r := ⟨a + 1000000000 - q, by omega⟩
    have e5 : a + 1000000000 - q = r := by omega
    rw [e5]
    have e6 : (a + 1000000000) * P = (q + r) * P := by rw [hr]
    grind
  · intro hlt
    refine ⟨by simp [h.len], h.small.set _ _ (by omega), drop_set_succ h.rest, by omega, ?_⟩
    rw [e1, e2, e3, Nat.pow_succ]
    generalize 1000000000 ^ i = P at *
    generalize x.getD i 0 = a at *
    obtain ⟨r, hr⟩ : ∃ r, a = q + r := ⟨a - q, by omega⟩
    have e5 : a - q = r := by omega
    rw [e5]
    have e6 : a * P = (q + r) * P := by rw [hr]
    grind
theorem SubInv.still {x0 x y : List Nat} {t i : Nat} (h : SubInv x0 x y t i 0) (hi : i ≤ x0.length) (hyi : y.length ≤ i) :
    val x0 = val x + t * val y := by
  have h4 := h.eq
  rw [val_split x0 i hi, val_split x i (by rw [h.len]; exact hi), ← h.rest]
  rw [List.take_of_length_le (l := y) hyi] at h4
  omega
theorem SubInv.done {x0 x y : List Nat} {t q : Nat} (h : SubInv x0 x y t x0.length q) (hyi : y.length ≤ x0.length) :
    val x0 + q * 1000000000 ^ x0.length = val x + t * val y := by
  have h4 := h.eq
  rwa [List.take_of_length_le (l := y) hyi, List.take_of_length_le (Nat.le_refl _), List.take_of_length_le (by rw [h.len]; exact Nat.le_refl _)] at h4
theorem set_mid (a x c : List Nat) (i v : Nat) (hi : i < x.length) : (a ++ x ++ c).set (a.length + i) v = a ++ x.set i v ++ c := by
  rw [List.append_assoc, List.set_append_right _ _ (by omega), List.append_assoc]
  congr 1
  rw [show a.length + i - a.length = i by omega, List.set_append_left _ _ hi]
theorem getD_mid (a x c : List Nat) (i : Nat) (hi : i < x.length) : (a ++ x ++ c).getD (a.length + i) 0 = x.getD i 0 := by
  have h1 : a.length + i < (a ++ x ++ c).length := by simp; omega
  rw [getD_lt _ _ h1, getD_lt _ _ hi]
  simp [hi]
end Go.Proofs.YtmnbjkbkjmgmkaaGreatDoor

set_option linter.unusedSimpArgs false
set_option linter.unusedVariables false
namespace Go.Proofs.YtmnbjkbkjmgmkaaGreatDoor
open Go Go.Proofs Go.RowKit
def Subtracted (w : World) (b : Nat) (A X Y C : List Nat) (t : Nat) (e : Ending) (w' : World) : Prop :=
  ∃ q X', e = .returned (.int .u64 (q : Nat)) ∧ Blk w' b (A ++ X' ++ C) ∧ X'.length = X.length ∧ Small X' ∧ q ≤ t ∧ val X + q * 1000000000 ^ X.length = val X' + t * val Y ∧ w.grownBy w' (some b)
theorem prod_bound (t y : Nat) (ht : t < 1000000000) (hy : y < 1000000000) : 0 ≤ (t : Int) * (y : Int) ∧ (t : Int) * (y : Int) ≤ 999999998000000001 := by
  have h : t * y ≤ 999999999 * 999999999 := Nat.mul_le_mul (by omega) (by omega)
  have e : (t : Int) * (y : Int) = ((t * y : Nat) : Int) := by rw [Int.natCast_mul]
  rw [e]; omega
set_option maxHeartbeats 4000000 in
theorem subtract_any (b c d n m : Nat) (ap : Option Addr) (A X Y C : List Nat) (t : Nat) (w : World) (hb : Blk w b (A ++ X ++ C)) (hX : Small X) (hy : RowAt w ap d Y) (hY : Small Y)
    (hyb : ∀ b' o, ap = some ⟨b', o, none⟩ → Y ≠ [] → b' ≠ b) (hn : X.length = n) (hm : Y.length = m) (hmn : m ≤ n) (hnb : n ≤ 1000000000000) (ht : t < 1000000000) :
    Calls Tryz.prog 96 #[.slice (some ⟨b, A.length, none⟩) n c, .slice ap m d, .int .u64 t] w (Subtracted w b A X Y C t) := by
  have HB := Lib.hid hb; have HX := Lib.hid hX; have HYR := Lib.hid hy; have HY := Lib.hid hY; have HYB := Lib.hid hyb; have HN := Lib.hid hn; have HM := Lib.hid hm; have HMN := Lib.hid hmn
  clear hb hX hy hY hyb hn hm hmn
  generalize ho : A.length = o
  have HO := Lib.hid ho; clear ho
  go_enter Tryz.func96, Tryz.ntmps96
  go_wp2_with fail
  go_loopw [7, 15] (fun qv iv wr => ∃ (i q : Nat) (S : List Nat), i ≤ m ∧ iv = .int .i64 i ∧ qv = .int .u64 q ∧ Blk wr b (A ++ S ++ C) ∧ SubInv X S Y t i q ∧ w.grownBy wr (some b)) (fun _ iv _ => m - (intOf iv).toNat)
  case atStart => exact ⟨0, 0, X, Nat.zero_le _, rfl, rfl, HB.out, SubInv.start HX.out, grown_refl _ _⟩
  case round =>
    obtain ⟨i, q, S, hi, rfl, rfl, hbl, hinv, hgr⟩ := hrel
    have hq := hinv.borrow
    have HBL := Lib.hid hbl; have HI := Lib.hid hinv; have HG := Lib.hid hgr; clear hbl hinv hgr
    by_cases him : i < m
    · have hmn := HMN.out
      have hin : i < S.length := by have := HI.out.len; have := HN.out; omega
      have hYne : Y ≠ [] := fun h => by have := HM.out; rw [h] at this; simp at this; omega
      obtain ⟨b', o', rfl⟩ := HYR.out.addr hYne
      have hne := HYB.out b' o' rfl hYne
      have cy : wr.cell? ⟨b', o' + i, none⟩ = some (.int .u32 (Y.getD i 0 : Nat)) := gcell HG.out (HYR.out.get i (by rw [HM.out]; exact him)) (by simp; exact hne)
      have cx : wr.cell? ⟨b, o + i, none⟩ = some (.int .u32 (S.getD i 0 : Nat)) := by rw [← HO.out]; have := HBL.out.cell (A.length + i) (by simp; omega); rwa [getD_mid _ _ _ _ hin] at this
      have fx : wr.frozen? ⟨b, o + i, none⟩ = false := HBL.out.frozen _
      have hstep := HI.out.step (by have := HI.out.len; omega) HY.out
      have hset : ∀ v, Blk (wr.setCell ⟨b, o + i, none⟩ (.int .u32 ((v : Nat) : Int))) b (A ++ S.set i v ++ C) := fun v => by have := HBL.out.set (A.length + i) v; rw [set_mid _ _ _ _ _ hin, HO.out] at this; exact this
      have hset2 : ∀ v v', Blk ((wr.setCell ⟨b, o + i, none⟩ (.int .u32 ((v : Nat) : Int))).setCell ⟨b, o + i, none⟩ (.int .u32 ((v' : Nat) : Int))) b (A ++ S.set i v' ++ C) := fun v v' => by
        have := (hset v).set (A.length + i) v'; rw [set_mid _ _ _ _ _ (by simpa using hin), HO.out, List.set_set] at this; exact this
      have hy1 := HY.out.getD i
      have hx1 := HI.out.small.getD i
      generalize Y.getD i 0 = y at *
      generalize S.getD i 0 = a at *
      have hp := prod_bound t y ht hy1
      obtain ⟨hp1, hp2⟩ := hp
      have HST := Lib.hid hstep; have HSE := Lib.hid hset; have HSE2 := Lib.hid hset2
      have hil : i < n := by omega
      have HHN := Lib.hid hne
      clear hstep hset hset2 hne hYne hin hmn
      by_cases hlt : (a : Int) < ((q : Int) + (t : Int) * (y : Int)) % 1000000000
      · have e1 : a + 1000000000 - (q + t * y) % 1000000000 = a + 1000000000 - (q + t * y) % 1000000000 := rfl
        have ev : (((a + 1000000000 - (q + t * y) % 1000000000 : Nat)) : Int) = (a : Int) + 1000000000 - ((q : Int) + (t : Int) * (y : Int)) % 1000000000 := by
          have : ((q + t * y : Nat) : Int) = (q : Int) + (t : Int) * (y : Int) := by rw [Int.natCast_add, Int.natCast_mul]
          omega
        have eq : (((q + t * y) / 1000000000 + 1 : Nat) : Int) = ((q : Int) + (t : Int) * (y : Int)) / 1000000000 + 1 := by
          have : ((q + t * y : Nat) : Int) = (q : Int) + (t : Int) * (y : Int) := by rw [Int.natCast_add, Int.natCast_mul]
          omega
        have hlt' : a < (q + t * y) % 1000000000 := by
          have : ((q + t * y : Nat) : Int) = (q : Int) + (t : Int) * (y : Int) := by rw [Int.natCast_add, Int.natCast_mul]
          omega
        have h2 := HSE2.out (a + 1000000000) (a + 1000000000 - (q + t * y) % 1000000000)
        rw [ev] at h2
        have H2 := Lib.hid h2; have EQ := Lib.hid eq; have HL := Lib.hid hlt'
        clear e1 ev eq hlt' h2
        go_wp2
        go_roundw
        case rel => exact ⟨i + 1, _, _, by omega, by go_num, by rw [← EQ.out], H2.out, HST.out.1 HL.out, grown_set (grown_set HG.out _ _) _ _⟩
        case measure => simp [intOf]; omega
      · have ev : (((a - (q + t * y) % 1000000000 : Nat)) : Int) = (a : Int) - ((q : Int) + (t : Int) * (y : Int)) % 1000000000 := by
          have : ((q + t * y : Nat) : Int) = (q : Int) + (t : Int) * (y : Int) := by rw [Int.natCast_add, Int.natCast_mul]
          omega
        have eq : (((q + t * y) / 1000000000 : Nat) : Int) = ((q : Int) + (t : Int) * (y : Int)) / 1000000000 := by
          have : ((q + t * y : Nat) : Int) = (q : Int) + (t : Int) * (y : Int) := by rw [Int.natCast_add, Int.natCast_mul]
          omega
        have hlt' : ¬ a < (q + t * y) % 1000000000 := by
          have : ((q + t * y : Nat) : Int) = (q : Int) + (t : Int) * (y : Int) := by rw [Int.natCast_add, Int.natCast_mul]
          omega
        have h2 := HSE.out (a - (q + t * y) % 1000000000)
        rw [ev] at h2
        have H2 := Lib.hid h2; have EQ := Lib.hid eq; have HL := Lib.hid hlt'
        clear ev eq hlt' h2
        go_wp2
        go_roundw
        case rel => exact ⟨i + 1, _, _, by omega, by go_num, by rw [← EQ.out], H2.out, HST.out.2 HL.out, grown_set HG.out _ _⟩
        case measure => simp [intOf]; omega
    · have hi0 : i = m := by omega
      subst hi0
      go_wp2_with fail
      go_loopw [7, 11] (fun qv iv wr => ∃ (j q : Nat) (S : List Nat), i ≤ j ∧ j ≤ n ∧ iv = .int .i64 j ∧ qv = .int .u64 q ∧ Blk wr b (A ++ S ++ C) ∧ SubInv X S Y t j q ∧ w.grownBy wr (some b)) (fun _ iv _ => n - (intOf iv).toNat)
      case atStart => exact ⟨i, q, S, Nat.le_refl _, HMN.out, rfl, rfl, HBL.out, HI.out, HG.out⟩
      case round =>
        clear HBL HI HG hq
        obtain ⟨j, q, S, hij, hj, rfl, rfl, hbl, hinv, hgr⟩ := hrel
        have hq := hinv.borrow
        have HBL := Lib.hid hbl; have HI := Lib.hid hinv; have HG := Lib.hid hgr; have HIJ := Lib.hid hij; clear hbl hinv hgr hij
        by_cases hjn : j < n
        · by_cases hq0 : 0 < q
          · have hin : j < S.length := by have := HI.out.len; have := HN.out; omega
            have cx : wr.cell? ⟨b, o + j, none⟩ = some (.int .u32 (S.getD j 0 : Nat)) := by rw [← HO.out]; have := HBL.out.cell (A.length + j) (by simp; omega); rwa [getD_mid _ _ _ _ hin] at this
            have fx : wr.frozen? ⟨b, o + j, none⟩ = false := HBL.out.frozen _
            have hstep := HI.out.carry (by have := HI.out.len; omega) (by rw [HM.out]; exact HIJ.out) ht hq0
            have hset : ∀ v, Blk (wr.setCell ⟨b, o + j, none⟩ (.int .u32 ((v : Nat) : Int))) b (A ++ S.set j v ++ C) := fun v => by have := HBL.out.set (A.length + j) v; rw [set_mid _ _ _ _ _ hin, HO.out] at this; exact this
            have hset2 : ∀ v v', Blk ((wr.setCell ⟨b, o + j, none⟩ (.int .u32 ((v : Nat) : Int))).setCell ⟨b, o + j, none⟩ (.int .u32 ((v' : Nat) : Int))) b (A ++ S.set j v' ++ C) := fun v v' => by
              have := (hset v).set (A.length + j) v'; rw [set_mid _ _ _ _ _ (by simpa using hin), HO.out, List.set_set] at this; exact this
            have hx1 := HI.out.small.getD j
            generalize S.getD j 0 = a at *
            have HST := Lib.hid hstep; have HSE := Lib.hid hset; have HSE2 := Lib.hid hset2
            clear hstep hset hset2 hin
            by_cases hlt : a < q
            · have ev : (((a + 1000000000 - q : Nat)) : Int) = (a : Int) + 1000000000 - (q : Int) := by omega
              have h2 := HSE2.out (a + 1000000000) (a + 1000000000 - q)
              rw [ev] at h2
              have H2 := Lib.hid h2
              clear ev h2
              go_wp2
              go_roundw
              case rel => exact ⟨j + 1, 1, _, by have := HIJ.out; omega, by omega, by go_num, rfl, H2.out, HST.out.1 hlt, grown_set (grown_set HG.out _ _) _ _⟩
              case measure => simp [intOf]; omega
            · have ev : (((a - q : Nat)) : Int) = (a : Int) - (q : Int) := by omega
              have h2 := HSE.out (a - q)
              rw [ev] at h2
              have H2 := Lib.hid h2
              clear ev h2
              go_wp2
              go_roundw
              case rel => exact ⟨j + 1, 0, _, by have := HIJ.out; omega, by omega, by go_num, rfl, H2.out, HST.out.2 hlt, grown_set HG.out _ _⟩
              case measure => simp [intOf]; omega
          · have hq1 : q = 0 := by omega
            subst hq1
            have hs := HI.out.still (by rw [HN.out]; omega) (by rw [HM.out]; exact HIJ.out)
            have HS := Lib.hid hs; clear hs hq0 hq
            go_wp2
            go_ret
            exact ⟨0, S, rfl, HBL.out, HI.out.len, HI.out.small, Nat.zero_le _, by rw [Nat.zero_mul, Nat.add_zero]; exact HS.out, HG.out⟩
        · have hj1 : j = n := by omega
          subst hj1
          have hs : val X + q * 1000000000 ^ X.length = val S + t * val Y := by
            have h1 := HI.out
            rw [← HN.out] at h1
            exact h1.done (by rw [HM.out, HN.out]; exact HIJ.out)
          have HS := Lib.hid hs; clear hs
          go_wp2
          go_ret
          exact ⟨q, S, rfl, HBL.out, HI.out.len, HI.out.small, hq, HS.out, HG.out⟩
end Go.Proofs.YtmnbjkbkjmgmkaaGreatDoor
