import Derived.Test.YtipnnmbjkpidoaaGreatDoorBase31
import Derived.Test.YtipnnmbjkpidoaaGreatDoorBase5

set_option linter.unusedVariables false
/-
  The reference: made.
-/
namespace Go.Proofs.YtipnnmbjkpidoaaGreatDoor
open Go Go.Proofs Go.RowKit

/-- The digits from place j on, the highest one first. -/
def tx (v j : Nat) : List UInt8 := ((nl v).drop j).reverse.map digitC
theorem tx_end (v : Nat) : tx v (nl v).length = [] := by unfold tx; rw [List.drop_of_length_le (Nat.le_refl _)]; rfl
theorem tx_step (v j : Nat) (h : j < (nl v).length) : tx v j = tx v (j + 1) ++ [digitC ((nl v).getD j 0)] := by
  unfold tx
  rw [List.drop_eq_getElem_cons h, List.reverse_cons, List.map_append, getD_lt _ _ h]; rfl
theorem tx_length (v j : Nat) : (tx v j).length = (nl v).length - j := by unfold tx; simp
theorem digitC_dig (c : UInt8) (h : isDig c = true) : digitC (c.toNat - 48) = c := by
  have := isDig_iff.1 h
  unfold digitC
  rw [show 48 + (c.toNat - 48) = c.toNat by omega]
  exact UInt8.toNat_inj.1 (by rw [UInt8.toNat_ofNat']; have := c.toNat_lt; omega)
theorem tx_zero (v : Nat) (h : v ≠ 0) : tx v 0 = Lib.decDigits v := by
  unfold tx
  rw [List.drop_zero, ← dgs_pos h]
  unfold dgs
  rw [List.map_reverse, List.map_map, ← List.map_reverse, List.reverse_reverse]
  exact (List.map_congr_left (g := id) (fun c hc => digitC_dig c (allDig_decDigits v c hc))).trans (List.map_id _)
theorem digit_byte (d : Nat) (h : d < 10) : [Value.int .u8 (48 + (d : Int))] = Lib.byteCells [digitC d] := by
  simp only [Lib.byteCells, List.map_cons, List.map_nil]
  unfold digitC
  rw [toNat_dig _ h]; rfl

def sgnL (b : Bool) : List UInt8 := if b = true then [45] else []
def madeZ (b : Bool) (v : Nat) : Int := if b = true then -(v : Int) else v
theorem madeZ_text (b : Bool) (v : Nat) (h : v ≠ 0) : Lib.itoa (madeZ b v) = sgnL b ++ Lib.decDigits v := by
  unfold madeZ sgnL
  cases b
  · simp only [Bool.false_eq_true, if_false, List.nil_append]
    rw [itoa_nonneg (by omega), Int.natAbs_natCast]
  · simp only [if_true]
    rw [itoa_neg (by omega), Int.natAbs_neg, Int.natAbs_natCast]; rfl
theorem madeZ_zero (b : Bool) : madeZ b 0 = 0 := by cases b <;> rfl

theorem made_zero (l : List Nat) (v : Value) (b : Bool) (w : World) (hv : DV w v l) (hs : Dg l) (hb : l.length ≤ 1000000000) (h0 : dv l = 0) :
    Calls Tryz.prog 127 #[v, .bool b] w fun e w' => e = .returned (.string (str (Lib.itoa 0))) ∧ Below w.heap.size w w' := by
  have C := cut_any l v w hv hs (by omega)
  rw [h0, nl_zero] at C
  have hz : str (Lib.itoa 0) = ⟨#[48]⟩ := by rw [itoa_nonneg (by omega)]; show str (Lib.decDigits 0) = _; rw [dec0']; rfl
  rw [hz]
  obtain ⟨ao, c, rfl, -⟩ := hv
  generalize l.length = n at *
  have KC := Lib.hid C; clear C hs h0 hz
  go_enter Tryz.func127, Tryz.ntmps127
  go_wp2_with (go_at_call 114; refine KC.out.mono ?_; rintro e w1 ⟨v1, rfl, hv1, h⟩; subst h; refine Hid.out ?_)
  obtain ⟨ar, cr, rfl, -⟩ := hv1
  refine Lib.hid ?_
  have hnil : ([] : List Nat).length = 0 := rfl
  rw [hnil]
  go_wp2
  go_ret
  exact ⟨rfl, Below.refl _ _⟩

set_option maxHeartbeats 4000000 in
theorem made_pos (l : List Nat) (v : Value) (b : Bool) (w : World) (hv : DV w v l) (hs : Dg l) (hb : l.length ≤ 1000000000) (h0 : dv l ≠ 0) :
    Calls Tryz.prog 127 #[v, .bool b] w fun e w' => e = .returned (.string (str (Lib.itoa (madeZ b (dv l))))) ∧ Below w.heap.size w w' := by
  obtain ⟨i0, hi, hz0, hz1, hz2⟩ := info_parts infoU8
  have C := cut_any l v w hv hs (by omega)
  have hlen : (nl (dv l)).length ≤ 1000000000 := by rw [← dtake_keep hs, List.length_take]; omega
  have htext := madeZ_text b _ h0
  rw [htext, ← tx_zero _ h0]
  clear htext hs
  obtain ⟨ao, c, rfl, -⟩ := hv
  generalize l.length = n at *
  generalize hx : dv l = x at *
  have hne : nl x ≠ [] := fun e => h0 (nl_nil_iff.1 e)
  have hpos : 0 < (nl x).length := List.length_pos_iff.2 hne
  have hstep : ∀ j, j < (nl x).length → tx x j = tx x (j + 1) ++ [digitC ((nl x).getD j 0)] := fun j h => tx_step x j h
  have hdg : ∀ j, (nl x).getD j 0 < 10 := fun j => (nl_small x).getD j
  have hend := tx_end x
  have htl : ∀ j, (tx x j).length = (nl x).length - j := fun j => tx_length x j
  obtain ⟨k, hk⟩ : ∃ k, (nl x).length = k + 1 := ⟨(nl x).length - 1, by omega⟩
  have KC := Lib.hid C; have HST := Lib.hid hstep; have HDG := Lib.hid hdg; have HEND := Lib.hid hend; have HTL := Lib.hid htl; have HNE := Lib.hid hne
  clear C hstep hdg hend htl h0 hne hpos hb hx
  have hk1 : k + 1 ≤ 1000000000 := by rw [← hk]; exact hlen
  clear hlen
  have HK := Lib.hid hk; clear hk
  have t0 : (((k : Int) + 1) == 0) = false := by rw [beq_eq_false_iff_ne]; omega
  cases b
  · go_enter Tryz.func127, Tryz.ntmps127
    go_wp2_with (go_at_call 114; refine KC.out.mono ?_; rintro e w1 ⟨v1, rfl, hv1, h⟩; subst h; refine Hid.out ?_)
    obtain ⟨ar, cr, rfl, hr⟩ := hv1
    obtain ⟨bx, ox, rfl⟩ := hr.addr HNE.out
    have hbx := hr.block HNE.out
    have hcr := hr.1; have hcr2 := hr.2.1
    have hget : ∀ j, j < (nl x).length → w1.cell? ⟨bx, ox + j, none⟩ = some (.int .i64 ((nl x).getD j 0 : Nat)) := fun j h => hr.get j h
    have HGET := Lib.hid hget
    clear hr hget
    rw [HK.out] at hcr ⊢
    refine Lib.hid ?_
    obtain ⟨w0, hw0⟩ : ∃ w0 : World, w0 = w1 := ⟨_, rfl⟩
    have hbw0 : Below w1.heap.size w1 w1 := Below.refl _ _
    have hO : w1.ownsRow w1.heap.size 5 1 (.slice none 0 0) ((sgnL false).length + ((nl x).length - (k + 1))) (Lib.byteCells (sgnL false ++ tx x (k + 1))) := by
      rw [← HK.out, HEND.out, Nat.sub_self]; exact World.ownsRow_nil _ _ _ _
    have HO := Lib.hid hO; clear hO hw0
    obtain ⟨q, hq⟩ : ∃ q, q = (sgnL false).length := ⟨_, rfl⟩
    have hq1 : q ≤ 1 := by rw [hq]; decide
    rw [← hq] at HO
    have HQ := Lib.hid hq; clear hq
    go_wp2_with fail
    go_loopw [5, 6] (fun v iv wr => ∃ j : Nat, j ≤ k + 1 ∧ iv = .int .i64 ((j : Int) - 1) ∧ wr.ownsRow w1.heap.size 5 1 v (q + ((nl x).length - j)) (Lib.byteCells (sgnL false ++ tx x j)) ∧ Below w1.heap.size w1 wr) (fun _ iv _ => (intOf iv + 1).toNat)
    case atStart => exact ⟨k + 1, Nat.le_refl _, by go_num, HO.out, hbw0⟩
    case round =>
      obtain ⟨j, hj, rfl, hown, hbw⟩ := hrel
      rcases Nat.eq_zero_or_pos j with rfl | hj0
      · have hne : q + ((nl x).length - 0) ≠ 0 := by rw [HK.out]; omega
        obtain ⟨L, hL⟩ : ∃ L, L = sgnL false ++ tx x 0 := ⟨_, rfl⟩
        have hlen : q + ((nl x).length - 0) = L.length := by
          rw [hL, List.length_append, HTL.out, HQ.out]
        rw [hlen] at hown hne
        rw [← hL] at hown
        have HB := Lib.hid hbw
        rcases hown.2 with ⟨-, h0⟩ | ⟨g, cap, cur, rfl, -, -, -, -, -, -⟩
        · exact absurd h0 hne
        have hcv := run_convert_bytes_back (P := Tryz.prog) wr 127 22 5 ⟨g, 0, none⟩ cap L Tryz.underlying127 Tryz.underlying5 Tryz.underlying22 (fun j hj => hown.cells (g := g) rfl j _ (by simp [Lib.byteCells, hj]))
        have HL := Lib.hid hL
        clear hown hlen hne hL hbw
        go_wp2
        go_ret
        exact ⟨by rw [← HL.out]; rfl, HB.out⟩
      · obtain ⟨i, rfl⟩ : ∃ i, j = i + 1 := ⟨j - 1, by omega⟩
        have hik : i < k + 1 := by omega
        have cy := (hbw.cell (p := ⟨bx, ox + i, none⟩) hbx).trans (HGET.out i (by rw [HK.out]; exact hik))
        have hd9 := HDG.out i
        have hst := HST.out i (by rw [HK.out]; exact hik)
        generalize (nl x).getD i 0 = d at *
        have HS := Lib.hid hst; clear hst
        have hsz : q + ((nl x).length - (i + 1)) ≤ 1000000002 := by rw [HK.out]; omega
        have hsz2 : q + ((nl x).length - i) = q + ((nl x).length - (i + 1)) + 1 := by rw [HK.out]; omega
        generalize q + ((nl x).length - (i + 1)) = sz at *
        have HS2 := Lib.hid hsz2; clear hsz2
        go_wp2_with (at_builtin; refine wpList_append_own _ rfl _ _ 127 rfl w1.heap.size 5 i0 (.int .u8 0) 1 1 Tryz.underlying127 hi hz0 hz1 hz2 rfl (by decide) _ _ _ rfl (hown.alloc _) ⟨wr.heap.size, 0, none⟩ 1 1 [.int .u8 (48 + (d : Int))] rfl rfl ?c1 ?c2 ?c3 ?c4 ?c5 ?_)
        case c1 => intro j u hj; match j, hj with | 0, hj => (simp at hj; subst hj; simp [Addr.add])
        case c2 => intro u hu; simp at hu; subst hu; rfl
        case c3 => unfold maxLen; omega
        case c4 => omega
        case c5 => have := hbw.size; simp; omega
        intro v' w2 hown' hgrow _
        go_wp2
        go_roundw
        case rel =>
          refine ⟨i, by omega, by go_num, ?_, ?_⟩
          · rw [HS2.out, HS.out, ← List.append_assoc, byteCells_append, ← digit_byte d hd9]; exact hown'
          · exact hbw.trans (((Below.refl _ _).alloc (by have := hbw.size; omega) _).grown hgrow (by have := hbw.size; simp; omega) (fun k hk => ((hown.lt k hk)).1))
        case measure => simp only [intOf]; omega
  · go_enter Tryz.func127, Tryz.ntmps127
    go_wp2_with (go_at_call 114; refine KC.out.mono ?_; rintro e w1 ⟨v1, rfl, hv1, h⟩; subst h; refine Hid.out ?_)
    obtain ⟨ar, cr, rfl, hr⟩ := hv1
    obtain ⟨bx, ox, rfl⟩ := hr.addr HNE.out
    have hbx := hr.block HNE.out
    have hcr := hr.1; have hcr2 := hr.2.1
    have hget : ∀ j, j < (nl x).length → w1.cell? ⟨bx, ox + j, none⟩ = some (.int .i64 ((nl x).getD j 0 : Nat)) := fun j h => hr.get j h
    have HGET := Lib.hid hget
    clear hr hget
    rw [HK.out] at hcr ⊢
    refine Lib.hid ?_
    go_wp2_with (at_builtin; refine wpList_append_own _ rfl _ _ 127 rfl w1.heap.size 5 i0 (.int .u8 0) 1 1 Tryz.underlying127 hi hz0 hz1 hz2 rfl (by decide) _ _ _ rfl (World.ownsRow_nil _ _ _ _) ⟨w1.heap.size, 0, none⟩ 1 1 [.int .u8 45] rfl rfl ?c1 ?c2 ?c3 ?c4 ?c5 ?_)
    case c1 => intro j u hj; match j, hj with | 0, hj => (simp at hj; subst hj; simp [Addr.add])
    case c2 => intro u hu; simp at hu; subst hu; rfl
    case c3 => decide
    case c4 => decide
    case c5 => simp
    intro v0 w0 hown0 hgrow0 _
    have hbw0 : Below w1.heap.size w1 w0 := ((Below.refl _ _).alloc (Nat.le_refl _) _).grown hgrow0 (by simp) (fun k hk => ((World.ownsRow_nil w1 w1.heap.size 5 1).lt k hk).1)
    have hO : w0.ownsRow w1.heap.size 5 1 v0 ((sgnL true).length + ((nl x).length - (k + 1))) (Lib.byteCells (sgnL true ++ tx x (k + 1))) := by
      rw [← HK.out, HEND.out, Nat.sub_self]; exact hown0
    have HO := Lib.hid hO; clear hO hown0 hgrow0
    obtain ⟨q, hq⟩ : ∃ q, q = (sgnL true).length := ⟨_, rfl⟩
    have hq1 : q ≤ 1 := by rw [hq]; decide
    rw [← hq] at HO
    have HQ := Lib.hid hq; clear hq
    go_wp2_with fail
    go_loopw [5, 6] (fun v iv wr => ∃ j : Nat, j ≤ k + 1 ∧ iv = .int .i64 ((j : Int) - 1) ∧ wr.ownsRow w1.heap.size 5 1 v (q + ((nl x).length - j)) (Lib.byteCells (sgnL true ++ tx x j)) ∧ Below w1.heap.size w1 wr) (fun _ iv _ => (intOf iv + 1).toNat)
    case atStart => exact ⟨k + 1, Nat.le_refl _, by go_num, HO.out, hbw0⟩
    case round =>
      obtain ⟨j, hj, rfl, hown, hbw⟩ := hrel
      rcases Nat.eq_zero_or_pos j with rfl | hj0
      · have hne : q + ((nl x).length - 0) ≠ 0 := by rw [HK.out]; omega
        obtain ⟨L, hL⟩ : ∃ L, L = sgnL true ++ tx x 0 := ⟨_, rfl⟩
        have hlen : q + ((nl x).length - 0) = L.length := by
          rw [hL, List.length_append, HTL.out, HQ.out]
        rw [hlen] at hown hne
        rw [← hL] at hown
        have HB := Lib.hid hbw
        rcases hown.2 with ⟨-, h0⟩ | ⟨g, cap, cur, rfl, -, -, -, -, -, -⟩
        · exact absurd h0 hne
        have hcv := run_convert_bytes_back (P := Tryz.prog) wr 127 22 5 ⟨g, 0, none⟩ cap L Tryz.underlying127 Tryz.underlying5 Tryz.underlying22 (fun j hj => hown.cells (g := g) rfl j _ (by simp [Lib.byteCells, hj]))
        have HL := Lib.hid hL
        clear hown hlen hne hL hbw
        go_wp2
        go_ret
        exact ⟨by rw [← HL.out]; rfl, HB.out⟩
      · obtain ⟨i, rfl⟩ : ∃ i, j = i + 1 := ⟨j - 1, by omega⟩
        have hik : i < k + 1 := by omega
        have cy := (hbw.cell (p := ⟨bx, ox + i, none⟩) hbx).trans (HGET.out i (by rw [HK.out]; exact hik))
        have hd9 := HDG.out i
        have hst := HST.out i (by rw [HK.out]; exact hik)
        generalize (nl x).getD i 0 = d at *
        have HS := Lib.hid hst; clear hst
        have hsz : q + ((nl x).length - (i + 1)) ≤ 1000000002 := by rw [HK.out]; omega
        have hsz2 : q + ((nl x).length - i) = q + ((nl x).length - (i + 1)) + 1 := by rw [HK.out]; omega
        generalize q + ((nl x).length - (i + 1)) = sz at *
        have HS2 := Lib.hid hsz2; clear hsz2
        go_wp2_with (at_builtin; refine wpList_append_own _ rfl _ _ 127 rfl w1.heap.size 5 i0 (.int .u8 0) 1 1 Tryz.underlying127 hi hz0 hz1 hz2 rfl (by decide) _ _ _ rfl (hown.alloc _) ⟨wr.heap.size, 0, none⟩ 1 1 [.int .u8 (48 + (d : Int))] rfl rfl ?c1 ?c2 ?c3 ?c4 ?c5 ?_)
        case c1 => intro j u hj; match j, hj with | 0, hj => (simp at hj; subst hj; simp [Addr.add])
        case c2 => intro u hu; simp at hu; subst hu; rfl
        case c3 => unfold maxLen; omega
        case c4 => omega
        case c5 => have := hbw.size; simp; omega
        intro v' w2 hown' hgrow _
        go_wp2
        go_roundw
        case rel =>
          refine ⟨i, by omega, by go_num, ?_, ?_⟩
          · rw [HS2.out, HS.out, ← List.append_assoc, byteCells_append, ← digit_byte d hd9]; exact hown'
          · exact hbw.trans (((Below.refl _ _).alloc (by have := hbw.size; omega) _).grown hgrow (by have := hbw.size; simp; omega) (fun k hk => ((hown.lt k hk)).1))
        case measure => simp only [intOf]; omega

theorem made_any (l : List Nat) (v : Value) (b : Bool) (w : World) (hv : DV w v l) (hs : Dg l) (hb : l.length ≤ 1000000000) :
    Calls Tryz.prog 127 #[v, .bool b] w fun e w' => e = .returned (.string (str (Lib.itoa (madeZ b (dv l))))) ∧ Below w.heap.size w w' := by
  by_cases h0 : dv l = 0
  · rw [h0, madeZ_zero]; exact made_zero l v b w hv hs hb h0
  · exact made_pos l v b w hv hs hb h0
end Go.Proofs.YtipnnmbjkpidoaaGreatDoor
