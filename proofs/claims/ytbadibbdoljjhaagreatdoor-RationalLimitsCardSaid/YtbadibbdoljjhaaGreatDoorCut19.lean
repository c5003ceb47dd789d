import Derived.Test.YtbadibbdoljjhaaGreatDoorCut18
import Derived.Test.YtbadibbdoljjhaaGreatDoorCut4
import Derived.Lib.Atoi
import Derived.Test.YtbadibbdoljjhaaGreatDoorCut14
import Derived.Test.YtbadibbdoljjhaaGreatDoorCut17

set_option linter.unusedVariables false
/-
  The reference: made.
-/
namespace Go.Proofs.YtbadibbdoljjhaaGreatDoor
open Go Go.Proofs Go.RowKit

/-- The digits from place j on, the highest one first. -/
def tx (v j : Nat) : List UInt8 := ((nl v).drop j).reverse.map digitC
theorem tx_end (v : Nat) : tx v (nl v).length = [] := by unfold tx; rw [List.drop_of_length_le (Nat.le_refl _)]; rfl
theorem tx_step (v j : Nat) (h : j < (nl v).length) : tx v j = tx v (j + 1) ++ [digitC ((nl v).getD j 0)] := by
  unfold tx
  rw [List.drop_eq_getElem_cons h, List.reverse_cons, List.map_append, getD_lt _ _ h]; rfl
theorem tx_length (v j : Nat) : (tx v j).length = (nl v).length - j := by unfold tx; simp
theorem digitC_dig (c : UInt8) (h : isDig c = true) : digitC (c.toNat - 48) = c := by
  have := isDig_iff.1 h
  unfold digitC
  rw [show 48 + (c.toNat - 48) = c.toNat by omega]
  exact UInt8.toNat_inj.1 (by rw [UInt8.toNat_ofNat']; have := c.toNat_lt; omega)
theorem tx_zero (v : Nat) (h : v ≠ 0) : tx v 0 = Lib.decDigits v := by
  unfold tx
  rw [List.drop_zero, ← dgs_pos h]
  unfold dgs
  rw [List.map_reverse, List.map_map, ← List.map_reverse, List.reverse_reverse]
  exact (List.map_congr_left (g := id) (fun c hc => digitC_dig c (allDig_decDigits v c hc))).trans (List.map_id _)
theorem digit_byte (d : Nat) (h : d < 10) : [Value.int .u8 (48 + (d : Int))] = Lib.byteCells [digitC d] := by
  simp only [Lib.byteCells, List.map_cons, List.map_nil]
  unfold digitC
  rw [toNat_dig _ h]; rfl

def sgnL (b : Bool) : List UInt8 := if b = true then [45] else []
def madeZ (b : Bool) (v : Nat) : Int := if b = true then -(v : Int) else v
theorem madeZ_text (b : Bool) (v : Nat) (h : v ≠ 0) : Lib.itoa (madeZ b v) = sgnL b ++ Lib.decDigits v := by
  unfold madeZ sgnL
  cases b
  · simp only [Bool.false_eq_true, if_false, List.nil_append]
    rw [itoa_nonneg (by omega), Int.natAbs_natCast]
  · simp only [if_true]
    rw [itoa_neg (by omega), Int.natAbs_neg, Int.natAbs_natCast]; rfl
theorem madeZ_zero (b : Bool) : madeZ b 0 = 0 := by cases b <;> rfl

theorem made_zero (l : List Nat) (v : Value) (b : Bool) (w : World) (hv : DV w v l) (hs : Dg l) (hb : l.length ≤ 1000000000) (h0 : dv l = 0) :
    Calls Tryz.prog 143 #[v, .bool b] w fun e w' => e = .returned (.string (str (Lib.itoa 0))) ∧ Below w.heap.size w w' := by
  have C := cut_any l v w hv hs (by omega)
  rw [h0, nl_zero] at C
  have hz : str (Lib.itoa 0) = ⟨#[48]⟩ := by rw [itoa_nonneg (by omega)]; show str (Lib.decDigits 0) = _; rw [dec0']; rfl
  rw [hz]
  obtain ⟨ao, c, rfl, -⟩ := hv
  generalize l.length = n at *
  have KC := Lib.hid C; clear C hs h0 hz
  go_enter Tryz.func143, Tryz.ntmps143
  go_wp2_with (go_at_call 149; refine KC.out.mono ?_; rintro e w1 ⟨v1, rfl, hv1, h⟩; subst h; refine Hid.out ?_)
  obtain ⟨ar, cr, rfl, -⟩ := hv1
  refine Lib.hid ?_
  have hnil : ([] : List Nat).length = 0 := rfl
  rw [hnil]
  go_wp2
  go_ret
  exact ⟨rfl, Below.refl _ _⟩

set_option maxHeartbeats 4000000 in
theorem made_pos (l : List Nat) (v : Value) (b : Bool) (w : World) (hv : DV w v l) (hs : Dg l) (hb : l.length ≤ 1000000000) (h0 : dv l ≠ 0) :
    Calls Tryz.prog 143 #[v, .bool b] w fun e w' => e = .returned (.string (str (Lib.itoa (madeZ b (dv l))))) ∧ Below w.heap.size w w' := by
  obtain ⟨i0, hi, hz0, hz1, hz2⟩ := info_parts infoU8
  have C := cut_any l v w hv hs (by omega)
  have hlen : (nl (dv l)).length ≤ 1000000000 := by rw [← dtake_keep hs, List.length_take]; omega
  have htext := madeZ_text b _ h0
  rw [htext, ← tx_zero _ h0]
  clear htext hs
  obtain ⟨ao, c, rfl, -⟩ := hv
  generalize l.length = n at *
  generalize hx : dv l = x at *
  have hne : nl x ≠ [] := fun e => h0 (nl_nil_iff.1 e)
  have hpos : 0 < (nl x).length := List.length_pos_iff.2 hne
  have hstep : ∀ j, j < (nl x).length → tx x j = tx x (j + 1) ++ [digitC ((nl x).getD j 0)] := fun j h => tx_step x j h
  have hdg : ∀ j, (nl x).getD j 0 < 10 := fun j => (nl_small x).getD j
  have hend := tx_end x
  have htl : ∀ j, (tx x j).length = (nl x).length - j := fun j => tx_length x j
  obtain ⟨k, hk⟩ : ∃ k, (nl x).length = k + 1 := ⟨(nl x).length - 1, by omega⟩
  have KC := Lib.hid C; have HST := Lib.hid hstep; have HDG := Lib.hid hdg; have HEND := Lib.hid hend; have HTL := Lib.hid htl; have HNE := Lib.hid hne
  clear C hstep hdg hend htl h0 hne hpos hb hx
  have hk1 : k + 1 ≤ 1000000000 := by rw [← hk]; exact hlen
  clear hlen
  have HK := Lib.hid hk; clear hk
  have t0 : (((k : Int) + 1) == 0) = false := by rw [beq_eq_false_iff_ne]; omega
  cases b
  · go_enter Tryz.func143, Tryz.ntmps143
    go_wp2_with (go_at_call 149; refine KC.out.mono ?_; rintro e w1 ⟨v1, rfl, hv1, h⟩; subst h; refine Hid.out ?_)
    obtain ⟨ar, cr, rfl, hr⟩ := hv1
    obtain ⟨bx, ox, rfl⟩ := hr.addr HNE.out
    have hbx := hr.block HNE.out
    have hcr := hr.1; have hcr2 := hr.2.1
    have hget : ∀ j, j < (nl x).length → w1.cell? ⟨bx, ox + j, none⟩ = some (.int .i64 ((nl x).getD j 0 : Nat)) := fun j h => hr.get j h
    have HGET := Lib.hid hget
    clear hr hget
    rw [HK.out] at hcr ⊢
    refine Lib.hid ?_
    obtain ⟨w0, hw0⟩ : ∃ w0 : World, w0 = w1 := ⟨_, rfl⟩
    have hbw0 : Below w1.heap.size w1 w1 := Below.refl _ _
    have hO : w1.ownsRow w1.heap.size 5 1 (.slice none 0 0) ((sgnL false).length + ((nl x).length - (k + 1))) (Lib.byteCells (sgnL false ++ tx x (k + 1))) := by
      rw [← HK.out, HEND.out, Nat.sub_self]; exact World.ownsRow_nil _ _ _ _
    have HO := Lib.hid hO; clear hO hw0
    obtain ⟨q, hq⟩ : ∃ q, q = (sgnL false).length := ⟨_, rfl⟩
    have hq1 : q ≤ 1 := by rw [hq]; decide
    rw [← hq] at HO
    have HQ := Lib.hid hq; clear hq
    go_wp2_with fail
    go_loopw [5, 6] (fun v iv wr => ∃ j : Nat, j ≤ k + 1 ∧ iv = .int .i64 ((j : Int) - 1) ∧ wr.ownsRow w1.heap.size 5 1 v (q + ((nl x).length - j)) (Lib.byteCells (sgnL false ++ tx x j)) ∧ Below w1.heap.size w1 wr) (fun _ iv _ => (intOf iv + 1).toNat)
    case atStart => exact ⟨k + 1, Nat.le_refl _, by go_num, HO.out, hbw0⟩
    case round =>
      obtain ⟨j, hj, rfl, hown, hbw⟩ := hrel
      rcases Nat.eq_zero_or_pos j with rfl | hj0
      · have hne : q + ((nl x).length - 0) ≠ 0 := by rw [HK.out]; omega
        obtain ⟨L, hL⟩ : ∃ L, L = sgnL false ++ tx x 0 := ⟨_, rfl⟩
        have hlen : q + ((nl x).length - 0) = L.length := by
          rw [hL, List.length_append, HTL.out, HQ.out]
        rw [hlen] at hown hne
        rw [← hL] at hown
        have HB := Lib.hid hbw
        rcases hown.2 with ⟨-, h0⟩ | ⟨g, cap, cur, rfl, -, -, -, -, -, -⟩
        · exact absurd h0 hne
        have hcv := run_convert_bytes_back (P := Tryz.prog) wr 117 22 5 ⟨g, 0, none⟩ cap L Tryz.underlying117 Tryz.underlying5 Tryz.underlying22 (fun j hj => hown.cells (g := g) rfl j _ (by simp [Lib.byteCells, hj]))
        have HL := Lib.hid hL
        clear hown hlen hne hL hbw
        go_wp2
        go_ret
        exact ⟨by rw [← HL.out]; rfl, HB.out⟩
      · obtain ⟨i, rfl⟩ : ∃ i, j = i + 1 := ⟨j - 1, by omega⟩
        have hik : i < k + 1 := by omega
        have cy := (hbw.cell (p := ⟨bx, ox + i, none⟩) hbx).trans (HGET.out i (by rw [HK.out]; exact hik))
        have hd9 := HDG.out i
        have hst := HST.out i (by rw [HK.out]; exact hik)
        generalize (nl x).getD i 0 = d at *
        have HS := Lib.hid hst; clear hst
        have hsz : q + ((nl x).length - (i + 1)) ≤ 1000000002 := by rw [HK.out]; omega
        have hsz2 : q + ((nl x).length - i) = q + ((nl x).length - (i + 1)) + 1 := by rw [HK.out]; omega
        generalize q + ((nl x).length - (i + 1)) = sz at *
        have HS2 := Lib.hid hsz2; clear hsz2
        go_wp2_with (at_builtin; refine wpList_append_own _ rfl _ _ 117 rfl w1.heap.size 5 i0 (.int .u8 0) 1 1 Tryz.underlying117 hi hz0 hz1 hz2 rfl (by decide) _ _ _ rfl (hown.alloc _) ⟨wr.heap.size, 0, none⟩ 1 1 [.int .u8 (48 + (d : Int))] rfl rfl ?c1 ?c2 ?c3 ?c4 ?c5 ?_)
        case c1 => intro j u hj; match j, hj with | 0, hj => (simp at hj; subst hj; simp [Addr.add])
        case c2 => intro u hu; simp at hu; subst hu; rfl
        case c3 => unfold maxLen; omega
        case c4 => omega
        case c5 => have := hbw.size; simp; omega
        intro v' w2 hown' hgrow _
        go_wp2
        go_roundw
        case rel =>
          refine ⟨i, by omega, by go_num, ?_, ?_⟩
          · rw [HS2.out, HS.out, ← List.append_assoc, byteCells_append, ← digit_byte d hd9]; exact hown'
          · exact hbw.trans (((Below.refl _ _).alloc (by have := hbw.size; omega) _).grown hgrow (by have := hbw.size; simp; omega) (fun k hk => ((hown.lt k hk)).1))
        case measure => simp only [intOf]; omega
  · go_enter Tryz.func143, Tryz.ntmps143
    go_wp2_with (go_at_call 149; refine KC.out.mono ?_; rintro e w1 ⟨v1, rfl, hv1, h⟩; subst h; refine Hid.out ?_)
    obtain ⟨ar, cr, rfl, hr⟩ := hv1
    obtain ⟨bx, ox, rfl⟩ := hr.addr HNE.out
    have hbx := hr.block HNE.out
    have hcr := hr.1; have hcr2 := hr.2.1
    have hget : ∀ j, j < (nl x).length → w1.cell? ⟨bx, ox + j, none⟩ = some (.int .i64 ((nl x).getD j 0 : Nat)) := fun j h => hr.get j h
    have HGET := Lib.hid hget
    clear hr hget
    rw [HK.out] at hcr ⊢
    refine Lib.hid ?_
    go_wp2_with (at_builtin; refine wpList_append_own _ rfl _ _ 117 rfl w1.heap.size 5 i0 (.int .u8 0) 1 1 Tryz.underlying117 hi hz0 hz1 hz2 rfl (by decide) _ _ _ rfl (World.ownsRow_nil _ _ _ _) ⟨w1.heap.size, 0, none⟩ 1 1 [.int .u8 45] rfl rfl ?c1 ?c2 ?c3 ?c4 ?c5 ?_)
    case c1 => intro j u hj; match j, hj with | 0, hj => (simp at hj; subst hj; simp [Addr.add])
    case c2 => intro u hu; simp at hu; subst hu; rfl
    case c3 => decide
    case c4 => decide
    case c5 => simp
    intro v0 w0 hown0 hgrow0 _
    have hbw0 : Below w1.heap.size w1 w0 := ((Below.refl _ _).alloc (Nat.le_refl _) _).grown hgrow0 (by simp) (fun k hk => ((World.ownsRow_nil w1 w1.heap.size 5 1).lt k hk).1)
    have hO : w0.ownsRow w1.heap.size 5 1 v0 ((sgnL true).length + ((nl x).length - (k + 1))) (Lib.byteCells (sgnL true ++ tx x (k + 1))) := by
      rw [← HK.out, HEND.out, Nat.sub_self]; exact hown0
    have HO := Lib.hid hO; clear hO hown0 hgrow0
    obtain ⟨q, hq⟩ : ∃ q, q = (sgnL true).length := ⟨_, rfl⟩
    have hq1 : q ≤ 1 := by rw [hq]; decide
    rw [← hq] at HO
    have HQ := Lib.hid hq; clear hq
    go_wp2_with fail
    go_loopw [5, 6] (fun v iv wr => ∃ j : Nat, j ≤ k + 1 ∧ iv = .int .i64 ((j : Int) - 1) ∧ wr.ownsRow w1.heap.size 5 1 v (q + ((nl x).length - j)) (Lib.byteCells (sgnL true ++ tx x j)) ∧ Below w1.heap.size w1 wr) (fun _ iv _ => (intOf iv + 1).toNat)
    case atStart => exact ⟨k + 1, Nat.le_refl _, by go_num, HO.out, hbw0⟩
    case round =>
      obtain ⟨j, hj, rfl, hown, hbw⟩ := hrel
      rcases Nat.eq_zero_or_pos j with rfl | hj0
      · have hne : q + ((nl x).length - 0) ≠ 0 := by rw [HK.out]; omega
        obtain ⟨L, hL⟩ : ∃ L, L = sgnL true ++ tx x 0 := ⟨_, rfl⟩
        have hlen : q + ((nl x).length - 0) = L.length := by
          rw [hL, List.length_append, HTL.out, HQ.out]
        rw [hlen] at hown hne
        rw [← hL] at hown
        have HB := Lib.hid hbw
        rcases hown.2 with ⟨-, h0⟩ | ⟨g, cap, cur, rfl, -, -, -, -, -, -⟩
        · exact absurd h0 hne
        have hcv := run_convert_bytes_back (P := Tryz.prog) wr 117 22 5 ⟨g, 0, none⟩ cap L Tryz.underlying117 Tryz.underlying5 Tryz.underlying22 (fun j hj => hown.cells (g := g) rfl j _ (by simp [Lib.byteCells, hj]))
        have HL := Lib.hid hL
        clear hown hlen hne hL hbw
        go_wp2
        go_ret
        exact ⟨by rw [← HL.out]; rfl, HB.out⟩
      · obtain ⟨i, rfl⟩ : ∃ i, j = i + 1 := ⟨j - 1, by omega⟩
        have hik : i < k + 1 := by omega
        have cy := (hbw.cell (p := ⟨bx, ox + i, none⟩) hbx).trans (HGET.out i (by rw [HK.out]; exact hik))
        have hd9 := HDG.out i
        have hst := HST.out i (by rw [HK.out]; exact hik)
        generalize (nl x).getD i 0 = d at *
        have HS := Lib.hid hst; clear hst
        have hsz : q + ((nl x).length - (i + 1)) ≤ 1000000002 := by rw [HK.out]; omega
        have hsz2 : q + ((nl x).length - i) = q + ((nl x).length - (i + 1)) + 1 := by rw [HK.out]; omega
        generalize q + ((nl x).length - (i + 1)) = sz at *
        have HS2 := Lib.hid hsz2; clear hsz2
        go_wp2_with (at_builtin; refine wpList_append_own _ rfl _ _ 117 rfl w1.heap.size 5 i0 (.int .u8 0) 1 1 Tryz.underlying117 hi hz0 hz1 hz2 rfl (by decide) _ _ _ rfl (hown.alloc _) ⟨wr.heap.size, 0, none⟩ 1 1 [.int .u8 (48 + (d : Int))] rfl rfl ?c1 ?c2 ?c3 ?c4 ?c5 ?_)
        case c1 => intro j u hj; match j, hj with | 0, hj => (simp at hj; subst hj; simp [Addr.add])
        case c2 => intro u hu; simp at hu; subst hu; rfl
        case c3 => unfold maxLen; omega
        case c4 => omega
        case c5 => have := hbw.size; simp; omega
        intro v' w2 hown' hgrow _
        go_wp2
        go_roundw
        case rel =>
          refine ⟨i, by omega, by go_num, ?_, ?_⟩
          · rw [HS2.out, HS.out, ← List.append_assoc, byteCells_append, ← digit_byte d hd9]; exact hown'
          · exact hbw.trans (((Below.refl _ _).alloc (by have := hbw.size; omega) _).grown hgrow (by have := hbw.size; simp; omega) (fun k hk => ((hown.lt k hk)).1))
        case measure => simp only [intOf]; omega

theorem made_any (l : List Nat) (v : Value) (b : Bool) (w : World) (hv : DV w v l) (hs : Dg l) (hb : l.length ≤ 1000000000) :
    Calls Tryz.prog 143 #[v, .bool b] w fun e w' => e = .returned (.string (str (Lib.itoa (madeZ b (dv l))))) ∧ Below w.heap.size w w' := by
  by_cases h0 : dv l = 0
  · rw [h0, madeZ_zero]; exact made_zero l v b w hv hs hb h0
  · exact made_pos l v b w hv hs hb h0
end Go.Proofs.YtbadibbdoljjhaaGreatDoor

/-
  bigint: Small.
-/
namespace Go.Proofs.YtbadibbdoljjhaaGreatDoor
open Go Go.Proofs Go.RowKit

end Go.Proofs.YtbadibbdoljjhaaGreatDoor

/-
  BigintAgrees: the walk.
-/
namespace Go.Proofs.YtbadibbdoljjhaaGreatDoor
open Go Go.Proofs Go.RowKit

theorem fits_of_lt {z : Int} (k : Nat) (h : z.natAbs < 10 ^ k) (h0 : 0 < k) (hk : k ≤ 4096) : ¬ 4096 < (Lib.decDigits z.natAbs).length := by
  have := decDigits_length_le z.natAbs k h0 h
  omega
end Go.Proofs.YtbadibbdoljjhaaGreatDoor

/-
  BigintRests: the walk.
-/
namespace Go.Proofs.YtbadibbdoljjhaaGreatDoor
open Go Go.Proofs Go.RowKit

theorem all_two (p : ByteArray → Bool) (s t : ByteArray) : [s, t].all p = (p s && p t) := by simp
theorem few_lt {s : ByteArray} {x : Int} (h : Str s x) (hf : s.size ≤ 250) : x.natAbs < 10 ^ 250 := by
  have h1 := dec_lt (allDig_decDigits x.natAbs)
  rw [dec_decDigits] at h1
  refine Nat.lt_of_lt_of_le h1 (Nat.pow_le_pow_right (by decide) ?_)
  have h2 : (bytes s).length = s.size := rfl
  rw [h.text] at h2
  by_cases hz : x < 0
  · rw [itoa_neg hz] at h2; simp at h2; omega
  · rw [itoa_nonneg hz] at h2; omega

end Go.Proofs.YtbadibbdoljjhaaGreatDoor

/-
  Min, Max of bigint; BigintOrders: the walk.
-/
namespace Go.Proofs.YtbadibbdoljjhaaGreatDoor
open Go Go.Proofs Go.RowKit

/-- A function returns a value, and has turned nothing that lay before. -/
def Bret (v : Value) (w : World) (e : Ending) (w' : World) : Prop := e = .returned v ∧ Below w.heap.size w w'
theorem bret_same {P : Program} {f : FuncId} {args : Array Value} {v : Value} {w : World} (c : Calls P f args w fun e w' => e = .returned v ∧ w' = w) : Calls P f args w (Bret v w) :=
  c.mono fun _ _ h => ⟨h.1, by rw [h.2]; exact Below.refl _ _⟩
theorem min_any (s t : ByteArray) (w : World) (hs : s.size ≤ 9223372036854775807) (ht : t.size ≤ 9223372036854775807) :
    Calls Tryz.prog 69 #[.string s, .string t] w (Bret (.tuple #[.string (if errBoth (bytes s) (bytes t) = 0 then (if ordZ (bytes s) (bytes t) < 0 then s else t) else ⟨#[]⟩), .int .i64 (errBoth (bytes s) (bytes t) : Nat)]) w) := by
  have C1 := fun W => compareZ_any s t W hs ht
  have hc := errBoth_cases (bytes s) (bytes t)
  unfold cmpR at C1
  generalize errBoth (bytes s) (bytes t) = c at *
  generalize ordZ (bytes s) (bytes t) = r at *
  have K1 := Lib.hid C1; clear C1
  rcases hc with rfl | rfl | rfl
  · rw [if_pos rfl] at K1 ⊢
    by_cases h : r < 0
    · rw [if_pos h]
      go_enter Tryz.func69, Tryz.ntmps69
      go_wp2_with (go_at_call 67; refine (K1.out _).mono ?_; rintro e w1 ⟨rfl, rfl⟩; refine Hid.out ?_)
      refine Lib.hid ?_
      go_wp2
      refine bodyPost_ret (by simp [results, Tryz.results69, go_sem]; rfl) rfl ?_
      exact ⟨rfl, Below.refl _ _⟩
    · rw [if_neg h]
      go_enter Tryz.func69, Tryz.ntmps69
      go_wp2_with (go_at_call 67; refine (K1.out _).mono ?_; rintro e w1 ⟨rfl, rfl⟩; refine Hid.out ?_)
      refine Lib.hid ?_
      go_wp2
      refine bodyPost_ret (by simp [results, Tryz.results69, go_sem]; rfl) rfl ?_
      exact ⟨rfl, Below.refl _ _⟩
  all_goals
    rw [if_neg (by decide)] at K1 ⊢
    go_enter Tryz.func69, Tryz.ntmps69
    go_wp2_with (go_at_call 67; refine (K1.out _).mono ?_; rintro e w1 ⟨rfl, rfl⟩; refine Hid.out ?_)
    refine Lib.hid ?_
    go_wp2
    refine bodyPost_ret (by simp [results, Tryz.results69, go_sem]; rfl) rfl ?_
    exact ⟨rfl, Below.refl _ _⟩

theorem max_any (s t : ByteArray) (w : World) (hs : s.size ≤ 9223372036854775807) (ht : t.size ≤ 9223372036854775807) :
    Calls Tryz.prog 70 #[.string s, .string t] w (Bret (.tuple #[.string (if errBoth (bytes s) (bytes t) = 0 then (if 0 < ordZ (bytes s) (bytes t) then s else t) else ⟨#[]⟩), .int .i64 (errBoth (bytes s) (bytes t) : Nat)]) w) := by
  have C1 := fun W => compareZ_any s t W hs ht
  have hc := errBoth_cases (bytes s) (bytes t)
  unfold cmpR at C1
  generalize errBoth (bytes s) (bytes t) = c at *
  generalize ordZ (bytes s) (bytes t) = r at *
  have K1 := Lib.hid C1; clear C1
  rcases hc with rfl | rfl | rfl
  · rw [if_pos rfl] at K1 ⊢
    by_cases h : 0 < r
    · rw [if_pos h]
      go_enter Tryz.func70, Tryz.ntmps70
      go_wp2_with (go_at_call 67; refine (K1.out _).mono ?_; rintro e w1 ⟨rfl, rfl⟩; refine Hid.out ?_)
      refine Lib.hid ?_
      go_wp2
      refine bodyPost_ret (by simp [results, Tryz.results70, go_sem]; rfl) rfl ?_
      exact ⟨rfl, Below.refl _ _⟩
    · rw [if_neg h]
      go_enter Tryz.func70, Tryz.ntmps70
      go_wp2_with (go_at_call 67; refine (K1.out _).mono ?_; rintro e w1 ⟨rfl, rfl⟩; refine Hid.out ?_)
      refine Lib.hid ?_
      go_wp2
      refine bodyPost_ret (by simp [results, Tryz.results70, go_sem]; rfl) rfl ?_
      exact ⟨rfl, Below.refl _ _⟩
  all_goals
    rw [if_neg (by decide)] at K1 ⊢
    go_enter Tryz.func70, Tryz.ntmps70
    go_wp2_with (go_at_call 67; refine (K1.out _).mono ?_; rintro e w1 ⟨rfl, rfl⟩; refine Hid.out ?_)
    refine Lib.hid ?_
    go_wp2
    refine bodyPost_ret (by simp [results, Tryz.results70, go_sem]; rfl) rfl ?_
    exact ⟨rfl, Below.refl _ _⟩

theorem eq_of_ordZ {s t : ByteArray} (he : errBoth (bytes s) (bytes t) = 0) (h : ordZ (bytes s) (bytes t) = 0) : s = t := by
  obtain ⟨h1, h2⟩ := errBoth_zero he
  have e1 := txt_of_canon (canon_of_err h1)
  have e2 := txt_of_canon (canon_of_err h2)
  rw [e1, e2, ordZ_itoa] at h
  have hz : valZ (bytes s) = valZ (bytes t) := by
    unfold cmpI at h
    by_cases a : valZ (bytes s) < valZ (bytes t)
    · rw [if_pos a] at h; cases h
    · rw [if_neg a] at h
      by_cases b : valZ (bytes s) = valZ (bytes t)
      · exact b
      · rw [if_neg b] at h; cases h
  rw [← str_bytes s, ← str_bytes t, e1, e2, hz]
theorem ordL_cases (a b : List UInt8) : ordL a b = -1 ∨ ordL a b = 0 ∨ ordL a b = 1 := by
  unfold ordL
  by_cases h1 : a.length < b.length
  · rw [if_pos h1]; simp
  · rw [if_neg h1]
    by_cases h2 : b.length < a.length
    · rw [if_pos h2]; simp
    · rw [if_neg h2]
      clear h1 h2
      induction a generalizing b with
      | nil => cases b <;> simp [Lib.compareBytes]
      | cons c s ih =>
        cases b with
        | nil => simp [Lib.compareBytes]
        | cons d t =>
          unfold Lib.compareBytes
          by_cases h1 : c < d
          · rw [if_pos h1]; simp
          · rw [if_neg h1]
            by_cases h2 : d < c
            · rw [if_pos h2]; simp
            · rw [if_neg h2]; exact ih t
theorem ordZ_cases (a b : List UInt8) : ordZ a b = -1 ∨ ordZ a b = 0 ∨ ordZ a b = 1 := by
  unfold ordZ
  (repeat' split) <;> first | exact ordL_cases _ _ | simp

end Go.Proofs.YtbadibbdoljjhaaGreatDoor

/-
  The reference: Sum, Diff, Product, limited, Add, Sub, Mul.
-/
namespace Go.Proofs.YtbadibbdoljjhaaGreatDoor
open Go Go.Proofs Go.RowKit

theorem madeZ_same {x y : Int} {p : Bool} (hx : decide (x < 0) = p) (hy : decide (y < 0) = p) : madeZ p (x.natAbs + y.natAbs) = x + y := by
  cases p
  · rw [decide_eq_false_iff_not] at hx hy; simp only [madeZ]; simp; omega
  · rw [decide_eq_true_eq] at hx hy; simp only [madeZ]; simp; omega
theorem madeZ_left {x y : Int} {p q : Bool} (hx : decide (x < 0) = p) (hy : decide (y < 0) = q) (hpq : p ≠ q) (h : y.natAbs ≤ x.natAbs) : madeZ p (x.natAbs - y.natAbs) = x + y := by
  cases p <;> cases q
  · exact absurd rfl hpq
  · rw [decide_eq_false_iff_not] at hx; rw [decide_eq_true_eq] at hy; simp only [madeZ]; simp; omega
  · rw [decide_eq_false_iff_not] at hy; rw [decide_eq_true_eq] at hx; simp only [madeZ]; simp; omega
  · exact absurd rfl hpq
theorem cmpN_ge {x y : Nat} (h : decide (0 ≤ cmpN x y) = true) : y ≤ x := by
  rw [decide_eq_true_eq] at h
  unfold cmpN at h
  by_cases h1 : x < y
  · rw [if_pos h1] at h; omega
  · omega
theorem cmpN_lt {x y : Nat} (h : decide (0 ≤ cmpN x y) = false) : x ≤ y := by
  rw [decide_eq_false_iff_not] at h
  unfold cmpN at h
  by_cases h1 : x < y
  · omega
  · exfalso; rw [if_neg h1] at h; split at h <;> omega
theorem dec17 {z : Int} (h : (Lib.decDigits z.natAbs).length ≤ 17) : z.natAbs < 100000000000000000 := by
  have h1 := dec_lt (allDig_decDigits z.natAbs)
  rw [dec_decDigits] at h1
  exact Nat.lt_of_lt_of_le h1 (Nat.le_trans (Nat.pow_le_pow_right (by decide) h) (by decide))
theorem nl_len_add (x y : Nat) : (nl (x + y)).length ≤ (nl x).length + (nl y).length + 1 := by
  refine nl_length_le ?_
  have h1 := dlt_pow_limbs x; have h2 := dlt_pow_limbs y
  have p1 : (10 : Nat) ^ (nl x).length ≤ 10 ^ ((nl x).length + (nl y).length) := Nat.pow_le_pow_right (by decide) (by omega)
  have p2 : (10 : Nat) ^ (nl y).length ≤ 10 ^ ((nl x).length + (nl y).length) := Nat.pow_le_pow_right (by decide) (by omega)
  rw [Nat.pow_succ]
  generalize (10 : Nat) ^ ((nl x).length + (nl y).length) = p at *
  omega
theorem dlen9 {s : ByteArray} {z : Int} (h : bytes s = Lib.itoa z) (hs : s.size ≤ 100000000) : (dgs z.natAbs).length ≤ 1000000000 := by
  rw [dgs_length]
  have := txt_len h
  omega

set_option maxHeartbeats 8000000 in
theorem sum_short (s t : ByteArray) (x y : Int) (w : World) (hs : bytes s = Lib.itoa x) (ht : bytes t = Lib.itoa y) (hls : s.size ≤ 100000000) (hlt : t.size ≤ 100000000)
    (h1 : (Lib.decDigits x.natAbs).length ≤ 17) (h2 : (Lib.decDigits y.natAbs).length ≤ 17) :
    Calls Tryz.prog 164 #[.string s, .string t] w (Bret (.string (str (Lib.itoa (x + y)))) w) := by
  have S1 := fun W => shortT s x 17 W hs (by omega) (by decide)
  have S2 := fun W => shortT t y 17 W ht (by omega) (by decide)
  have N1 := fun W => number_any s x W hs (by omega)
  have N2 := fun W => number_any t y W ht (by omega)
  have b1 := dec17 h1; have b2 := dec17 h2
  have WW := fun W => whole_any (x + y) W (by omega) (by omega)
  rw [decide_eq_true h1] at S1
  rw [decide_eq_true h2] at S2
  generalize str (Lib.itoa (x + y)) = R at *
  have K1 := Lib.hid S1; have K2 := Lib.hid S2; have K3 := Lib.hid N1; have K4 := Lib.hid N2; have K5 := Lib.hid WW
  have x1 : -100000000000000000 ≤ x := by omega
  have x2 : x ≤ 100000000000000000 := by omega
  have y1 : -100000000000000000 ≤ y := by omega
  have y2 : y ≤ 100000000000000000 := by omega
  clear S1 S2 N1 N2 WW h1 h2 hs ht hls hlt b1 b2
  go_enter Tryz.func164, Tryz.ntmps164
  go_wp2_with (go_at_call 146; refine (K1.out _).mono ?_; rintro e w1 ⟨rfl, h⟩; subst h; refine Hid.out ?_)
  refine Lib.hid ?_
  go_wp2_with (go_at_call 146; refine (K2.out _).mono ?_; rintro e w2 ⟨rfl, h⟩; subst h; refine Hid.out ?_)
  refine Lib.hid ?_
  go_wp2_with (go_at_call 142; refine (K3.out _).mono ?_; rintro e w3 ⟨rfl, h⟩; subst h; refine Hid.out ?_)
  refine Lib.hid ?_
  go_wp2_with (go_at_call 142; refine (K4.out _).mono ?_; rintro e w4 ⟨rfl, h⟩; subst h; refine Hid.out ?_)
  refine Lib.hid ?_
  go_wp2_with (go_at_call 141; refine (K5.out _).mono ?_; rintro e w5 ⟨rfl, h⟩; subst h; refine Hid.out ?_)
  refine Lib.hid ?_
  go_wp2
  go_ret
  exact ⟨rfl, Below.refl _ _⟩

set_option maxHeartbeats 16000000 in
theorem sum_long (s t : ByteArray) (x y : Int) (w : World) (hs : bytes s = Lib.itoa x) (ht : bytes t = Lib.itoa y) (hls : s.size ≤ 100000000) (hlt : t.size ≤ 100000000)
    (h12 : ¬ ((Lib.decDigits x.natAbs).length ≤ 17 ∧ (Lib.decDigits y.natAbs).length ≤ 17)) :
    Calls Tryz.prog 164 #[.string s, .string t] w (Bret (.string (str (Lib.itoa (x + y)))) w) := by
  have S1 := fun W => shortT s x 17 W hs (by omega) (by decide)
  have S2 := fun W => shortT t y 17 W ht (by omega) (by decide)
  have D1 := fun W => refDigits_txt s x W hs (by omega)
  have D2 := fun W => refDigits_txt t y W ht (by omega)
  have G1 := fun W => negative_any s W (txt_size hs)
  have G2 := fun W => negative_any t W (txt_size ht)
  rw [txt_neg hs] at G1
  rw [txt_neg ht] at G2
  have l1 := dlen9 hs hls; have l2 := dlen9 ht hlt
  have P : ∀ v1 v2 W, DV W v1 (dgs x.natAbs) → DV W v2 (dgs y.natAbs) → Calls Tryz.prog 209 #[v1, v2] W (DRet (nl (x.natAbs + y.natAbs)) W) := fun v1 v2 W a b => by
    have := refPlus_any _ _ v1 v2 W a b (dgs_dg _) (dgs_dg _) l1 l2
    rwa [dv_dgs, dv_dgs] at this
  have M1 : y.natAbs ≤ x.natAbs → ∀ v1 v2 W, DV W v1 (dgs x.natAbs) → DV W v2 (dgs y.natAbs) → Calls Tryz.prog 196 #[v1, v2] W (DRet (nl (x.natAbs - y.natAbs)) W) := fun h v1 v2 W a b => by
    have := refMinus_any _ _ v1 v2 W a b (dgs_dg _) (dgs_dg _) l1 (by rw [dv_dgs, dv_dgs]; exact h)
    rwa [dv_dgs, dv_dgs] at this
  have M2 : x.natAbs ≤ y.natAbs → ∀ v1 v2 W, DV W v1 (dgs y.natAbs) → DV W v2 (dgs x.natAbs) → Calls Tryz.prog 196 #[v1, v2] W (DRet (nl (y.natAbs - x.natAbs)) W) := fun h v1 v2 W a b => by
    have := refMinus_any _ _ v1 v2 W a b (dgs_dg _) (dgs_dg _) l2 (by rw [dv_dgs, dv_dgs]; exact h)
    rwa [dv_dgs, dv_dgs] at this
  have U1 : ∀ v W, DV W v (dgs x.natAbs) → Calls Tryz.prog 149 #[v] W fun e w' => ∃ v', e = .returned v' ∧ DV W v' (nl x.natAbs) ∧ w' = W := fun v W hv => by
    have := cut_any _ v W hv (dgs_dg _) (by omega)
    rwa [dv_dgs] at this
  have U2 : ∀ v W, DV W v (dgs y.natAbs) → Calls Tryz.prog 149 #[v] W fun e w' => ∃ v', e = .returned v' ∧ DV W v' (nl y.natAbs) ∧ w' = W := fun v W hv => by
    have := cut_any _ v W hv (dgs_dg _) (by omega)
    rwa [dv_dgs] at this
  have O := fun vx vy W hx hy => refOrder_any x.natAbs y.natAbs vx vy W hx hy
  have MM : ∀ (a : Nat) (b : Bool), a ≤ x.natAbs + y.natAbs → ∀ v W, DV W v (nl a) → Calls Tryz.prog 143 #[v, .bool b] W (Bret (.string (str (Lib.itoa (madeZ b a)))) W) := fun a b ha v W hv => by
    have hl : (nl a).length ≤ 1000000000 := by
      have h1 := nl_length_mono ha
      have h2 := nl_len_add x.natAbs y.natAbs
      have h3 := nl_len_le x.natAbs; have h4 := nl_len_le y.natAbs
      have h5 := txt_len hs; have h6 := txt_len ht
      omega
    have := made_any (nl a) v b W hv (nl_small a) hl
    rwa [dv_limbs] at this
  obtain ⟨p, hp⟩ : ∃ p, decide (x < 0) = p := ⟨_, rfl⟩
  obtain ⟨q, hq⟩ : ∃ q, decide (y < 0) = q := ⟨_, rfl⟩
  have z1 : p = q → str (Lib.itoa (madeZ p (x.natAbs + y.natAbs))) = str (Lib.itoa (x + y)) := fun e => by rw [madeZ_same hp (hq.trans e.symm)]
  have z2 : p ≠ q → decide (0 ≤ cmpN x.natAbs y.natAbs) = true → str (Lib.itoa (madeZ p (x.natAbs - y.natAbs))) = str (Lib.itoa (x + y)) := fun e h => by rw [madeZ_left hp hq e (cmpN_ge h)]
  have z3 : p ≠ q → decide (0 ≤ cmpN x.natAbs y.natAbs) = false → str (Lib.itoa (madeZ q (y.natAbs - x.natAbs))) = str (Lib.itoa (x + y)) := fun e h => by rw [madeZ_left hq hp e.symm (cmpN_lt h), Int.add_comm]
  have M1' := fun h => M1 (cmpN_ge h)
  have M2' := fun h => M2 (cmpN_lt h)
  have MA := MM (x.natAbs + y.natAbs) p (Nat.le_refl _)
  have MB := MM (x.natAbs - y.natAbs) p (by omega)
  have MC := MM (y.natAbs - x.natAbs) q (by omega)
  rw [hp] at G1
  rw [hq] at G2
  generalize str (Lib.itoa (madeZ p (x.natAbs + y.natAbs))) = R1 at *
  generalize str (Lib.itoa (madeZ p (x.natAbs - y.natAbs))) = R2 at *
  generalize str (Lib.itoa (madeZ q (y.natAbs - x.natAbs))) = R3 at *
  generalize str (Lib.itoa (x + y)) = R at *
  generalize cmpN x.natAbs y.natAbs = r at *
  obtain ⟨c1, hc1⟩ : ∃ c1, decide ((Lib.decDigits x.natAbs).length ≤ 17) = c1 := ⟨_, rfl⟩
  obtain ⟨c2, hc2⟩ : ∃ c2, decide ((Lib.decDigits y.natAbs).length ≤ 17) = c2 := ⟨_, rfl⟩
  rw [hc1] at S1
  rw [hc2] at S2
  have hcc : c1 = false ∨ (c1 = true ∧ c2 = false) := by
    by_cases a : (Lib.decDigits x.natAbs).length ≤ 17
    · right
      refine ⟨by rw [← hc1]; exact decide_eq_true a, ?_⟩
      rw [← hc2]; exact decide_eq_false (fun b => h12 ⟨a, b⟩)
    · left; rw [← hc1]; exact decide_eq_false a
  have K1 := Lib.hid S1; have K2 := Lib.hid S2; have K3 := Lib.hid D1; have K4 := Lib.hid D2; have K5 := Lib.hid G1; have K6 := Lib.hid G2; have K7 := Lib.hid P; have K8 := Lib.hid U1; have K9 := Lib.hid U2; have K10 := Lib.hid O; have K11 := Lib.hid MA; have K12 := Lib.hid MB; have K13 := Lib.hid MC; have HM1 := Lib.hid M1'; have HM2 := Lib.hid M2'; have Z1 := Lib.hid z1; have Z2 := Lib.hid z2; have Z3 := Lib.hid z3
  clear S1 S2 D1 D2 G1 G2 P U1 U2 O MM MA MB MC M1 M2 M1' M2' z1 z2 z3 hp hq hc1 hc2 h12 hs ht hls hlt l1 l2
  rcases hcc with rfl | ⟨rfl, rfl⟩
  · by_cases hpq : p = q
    · subst hpq
      have HR := Z1.out rfl; clear Z1 Z2 Z3; subst HR
      go_enter Tryz.func164, Tryz.ntmps164
      go_wp2_with (go_at_call 146; refine (K1.out _).mono ?_; rintro e w1 ⟨rfl, h⟩; subst h; refine Hid.out ?_)
      refine Lib.hid ?_
      go_wp2_with (go_at_call 145; refine (K3.out _).mono ?_; rintro e w3 ⟨v3, rfl, hv3, hb3⟩; refine Hid.out ?_)
      refine Lib.hid ?_
      go_wp2_with (go_at_call 145; refine (K4.out _).mono ?_; rintro e w4 ⟨v4, rfl, hv4, hb4⟩; refine Hid.out ?_)
      refine Lib.hid ?_
      have hv3' := hv3.mono hb4; have hb34 := Below.chain hb3 hb4; clear hv3 hb3 hb4
      go_wp2_with (go_at_call 140; refine (K5.out _).mono ?_; rintro e w5 ⟨rfl, h⟩; subst h; refine Hid.out ?_)
      refine Lib.hid ?_
      go_wp2_with (go_at_call 140; refine (K6.out _).mono ?_; rintro e w6 ⟨rfl, h⟩; subst h; refine Hid.out ?_)
      refine Lib.hid ?_
      go_wp2_with (go_at_call 209; refine (K7.out _ _ _ hv3' hv4).mono ?_; rintro e w7 ⟨v7, rfl, hv7, hb7⟩; refine Hid.out ?_)
      refine Lib.hid ?_
      go_wp2_with (go_at_call 140; refine (K5.out _).mono ?_; rintro e w8 ⟨rfl, h⟩; subst h; refine Hid.out ?_)
      refine Lib.hid ?_
      go_wp2_with (go_at_call 143; refine (K11.out _ _ hv7).mono ?_; rintro e w9 ⟨rfl, hb9⟩; refine Hid.out ?_)
      refine Lib.hid ?_
      go_wp2
      go_ret
      exact ⟨rfl, Below.chain hb34 (Below.chain hb7 hb9)⟩
    · have hb : (p == q) = false := by rw [beq_eq_false_iff_ne]; exact hpq
      cases hr : decide (0 ≤ r)
      · have KM := Lib.hid (HM2.out hr); have HR := Z3.out hpq hr; clear Z1 Z2 Z3 HM1 HM2 hpq; subst HR
        go_enter Tryz.func164, Tryz.ntmps164
        go_wp2_with (go_at_call 146; refine (K1.out _).mono ?_; rintro e w1 ⟨rfl, h⟩; subst h; refine Hid.out ?_)
        refine Lib.hid ?_
        go_wp2_with (go_at_call 145; refine (K3.out _).mono ?_; rintro e w3 ⟨v3, rfl, hv3, hb3⟩; refine Hid.out ?_)
        refine Lib.hid ?_
        go_wp2_with (go_at_call 145; refine (K4.out _).mono ?_; rintro e w4 ⟨v4, rfl, hv4, hb4⟩; refine Hid.out ?_)
        refine Lib.hid ?_
        have hv3' := hv3.mono hb4; have hb34 := Below.chain hb3 hb4; clear hv3 hb3 hb4
        go_wp2_with (go_at_call 140; refine (K5.out _).mono ?_; rintro e w5 ⟨rfl, h⟩; subst h; refine Hid.out ?_)
        refine Lib.hid ?_
        go_wp2_with (go_at_call 140; refine (K6.out _).mono ?_; rintro e w6 ⟨rfl, h⟩; subst h; refine Hid.out ?_)
        refine Lib.hid ?_
        go_wp2_with (go_at_call 149; refine (K8.out _ _ hv3').mono ?_; rintro e w7 ⟨v7, rfl, hv7, h⟩; subst h; refine Hid.out ?_)
        refine Lib.hid ?_
        go_wp2_with (go_at_call 149; refine (K9.out _ _ hv4).mono ?_; rintro e w8 ⟨v8, rfl, hv8, h⟩; subst h; refine Hid.out ?_)
        refine Lib.hid ?_
        go_wp2_with (go_at_call 162; refine (K10.out _ _ _ hv7 hv8).mono ?_; rintro e w9 ⟨rfl, hb9⟩; refine Hid.out ?_)
        have hv3'' := hv3'.mono hb9; have hv4'' := hv4.mono hb9
        refine Lib.hid ?_
        go_wp2_with (go_at_call 196; refine (KM.out _ _ _ hv4'' hv3'').mono ?_; rintro e w10 ⟨v10, rfl, hv10, hb10⟩; refine Hid.out ?_)
        refine Lib.hid ?_
        go_wp2_with (go_at_call 140; refine (K6.out _).mono ?_; rintro e w11 ⟨rfl, h⟩; subst h; refine Hid.out ?_)
        refine Lib.hid ?_
        go_wp2_with (go_at_call 143; refine (K13.out _ _ hv10).mono ?_; rintro e w12 ⟨rfl, hb12⟩; refine Hid.out ?_)
        refine Lib.hid ?_
        go_wp2
        go_ret
        exact ⟨rfl, Below.chain hb34 (Below.chain hb9 (Below.chain hb10 hb12))⟩
      · have KM := Lib.hid (HM1.out hr); have HR := Z2.out hpq hr; clear Z1 Z2 Z3 HM1 HM2 hpq; subst HR
        go_enter Tryz.func164, Tryz.ntmps164
        go_wp2_with (go_at_call 146; refine (K1.out _).mono ?_; rintro e w1 ⟨rfl, h⟩; subst h; refine Hid.out ?_)
        refine Lib.hid ?_
        go_wp2_with (go_at_call 145; refine (K3.out _).mono ?_; rintro e w3 ⟨v3, rfl, hv3, hb3⟩; refine Hid.out ?_)
        refine Lib.hid ?_
        go_wp2_with (go_at_call 145; refine (K4.out _).mono ?_; rintro e w4 ⟨v4, rfl, hv4, hb4⟩; refine Hid.out ?_)
        refine Lib.hid ?_
        have hv3' := hv3.mono hb4; have hb34 := Below.chain hb3 hb4; clear hv3 hb3 hb4
        go_wp2_with (go_at_call 140; refine (K5.out _).mono ?_; rintro e w5 ⟨rfl, h⟩; subst h; refine Hid.out ?_)
        refine Lib.hid ?_
        go_wp2_with (go_at_call 140; refine (K6.out _).mono ?_; rintro e w6 ⟨rfl, h⟩; subst h; refine Hid.out ?_)
        refine Lib.hid ?_
        go_wp2_with (go_at_call 149; refine (K8.out _ _ hv3').mono ?_; rintro e w7 ⟨v7, rfl, hv7, h⟩; subst h; refine Hid.out ?_)
        refine Lib.hid ?_
        go_wp2_with (go_at_call 149; refine (K9.out _ _ hv4).mono ?_; rintro e w8 ⟨v8, rfl, hv8, h⟩; subst h; refine Hid.out ?_)
        refine Lib.hid ?_
        go_wp2_with (go_at_call 162; refine (K10.out _ _ _ hv7 hv8).mono ?_; rintro e w9 ⟨rfl, hb9⟩; refine Hid.out ?_)
        have hv3'' := hv3'.mono hb9; have hv4'' := hv4.mono hb9
        refine Lib.hid ?_
        go_wp2_with (go_at_call 196; refine (KM.out _ _ _ hv3'' hv4'').mono ?_; rintro e w10 ⟨v10, rfl, hv10, hb10⟩; refine Hid.out ?_)
        refine Lib.hid ?_
        go_wp2_with (go_at_call 140; refine (K5.out _).mono ?_; rintro e w11 ⟨rfl, h⟩; subst h; refine Hid.out ?_)
        refine Lib.hid ?_
        go_wp2_with (go_at_call 143; refine (K12.out _ _ hv10).mono ?_; rintro e w12 ⟨rfl, hb12⟩; refine Hid.out ?_)
        refine Lib.hid ?_
        go_wp2
        go_ret
        exact ⟨rfl, Below.chain hb34 (Below.chain hb9 (Below.chain hb10 hb12))⟩
  · by_cases hpq : p = q
    · subst hpq
      have HR := Z1.out rfl; clear Z1 Z2 Z3; subst HR
      go_enter Tryz.func164, Tryz.ntmps164
      go_wp2_with (go_at_call 146; refine (K1.out _).mono ?_; rintro e w1 ⟨rfl, h⟩; subst h; refine Hid.out ?_)
      refine Lib.hid ?_
      go_wp2_with (go_at_call 146; refine (K2.out _).mono ?_; rintro e w2 ⟨rfl, h⟩; subst h; refine Hid.out ?_)
      refine Lib.hid ?_
      go_wp2_with (go_at_call 145; refine (K3.out _).mono ?_; rintro e w3 ⟨v3, rfl, hv3, hb3⟩; refine Hid.out ?_)
      refine Lib.hid ?_
      go_wp2_with (go_at_call 145; refine (K4.out _).mono ?_; rintro e w4 ⟨v4, rfl, hv4, hb4⟩; refine Hid.out ?_)
      refine Lib.hid ?_
      have hv3' := hv3.mono hb4; have hb34 := Below.chain hb3 hb4; clear hv3 hb3 hb4
      go_wp2_with (go_at_call 140; refine (K5.out _).mono ?_; rintro e w5 ⟨rfl, h⟩; subst h; refine Hid.out ?_)
      refine Lib.hid ?_
      go_wp2_with (go_at_call 140; refine (K6.out _).mono ?_; rintro e w6 ⟨rfl, h⟩; subst h; refine Hid.out ?_)
      refine Lib.hid ?_
      go_wp2_with (go_at_call 209; refine (K7.out _ _ _ hv3' hv4).mono ?_; rintro e w7 ⟨v7, rfl, hv7, hb7⟩; refine Hid.out ?_)
      refine Lib.hid ?_
      go_wp2_with (go_at_call 140; refine (K5.out _).mono ?_; rintro e w8 ⟨rfl, h⟩; subst h; refine Hid.out ?_)
      refine Lib.hid ?_
      go_wp2_with (go_at_call 143; refine (K11.out _ _ hv7).mono ?_; rintro e w9 ⟨rfl, hb9⟩; refine Hid.out ?_)
      refine Lib.hid ?_
      go_wp2
      go_ret
      exact ⟨rfl, Below.chain hb34 (Below.chain hb7 hb9)⟩
    · have hb : (p == q) = false := by rw [beq_eq_false_iff_ne]; exact hpq
      cases hr : decide (0 ≤ r)
      · have KM := Lib.hid (HM2.out hr); have HR := Z3.out hpq hr; clear Z1 Z2 Z3 HM1 HM2 hpq; subst HR
        go_enter Tryz.func164, Tryz.ntmps164
        go_wp2_with (go_at_call 146; refine (K1.out _).mono ?_; rintro e w1 ⟨rfl, h⟩; subst h; refine Hid.out ?_)
        refine Lib.hid ?_
        go_wp2_with (go_at_call 146; refine (K2.out _).mono ?_; rintro e w2 ⟨rfl, h⟩; subst h; refine Hid.out ?_)
        refine Lib.hid ?_
        go_wp2_with (go_at_call 145; refine (K3.out _).mono ?_; rintro e w3 ⟨v3, rfl, hv3, hb3⟩; refine Hid.out ?_)
        refine Lib.hid ?_
        go_wp2_with (go_at_call 145; refine (K4.out _).mono ?_; rintro e w4 ⟨v4, rfl, hv4, hb4⟩; refine Hid.out ?_)
        refine Lib.hid ?_
        have hv3' := hv3.mono hb4; have hb34 := Below.chain hb3 hb4; clear hv3 hb3 hb4
        go_wp2_with (go_at_call 140; refine (K5.out _).mono ?_; rintro e w5 ⟨rfl, h⟩; subst h; refine Hid.out ?_)
        refine Lib.hid ?_
        go_wp2_with (go_at_call 140; refine (K6.out _).mono ?_; rintro e w6 ⟨rfl, h⟩; subst h; refine Hid.out ?_)
        refine Lib.hid ?_
        go_wp2_with (go_at_call 149; refine (K8.out _ _ hv3').mono ?_; rintro e w7 ⟨v7, rfl, hv7, h⟩; subst h; refine Hid.out ?_)
        refine Lib.hid ?_
        go_wp2_with (go_at_call 149; refine (K9.out _ _ hv4).mono ?_; rintro e w8 ⟨v8, rfl, hv8, h⟩; subst h; refine Hid.out ?_)
        refine Lib.hid ?_
        go_wp2_with (go_at_call 162; refine (K10.out _ _ _ hv7 hv8).mono ?_; rintro e w9 ⟨rfl, hb9⟩; refine Hid.out ?_)
        have hv3'' := hv3'.mono hb9; have hv4'' := hv4.mono hb9
        refine Lib.hid ?_
        go_wp2_with (go_at_call 196; refine (KM.out _ _ _ hv4'' hv3'').mono ?_; rintro e w10 ⟨v10, rfl, hv10, hb10⟩; refine Hid.out ?_)
        refine Lib.hid ?_
        go_wp2_with (go_at_call 140; refine (K6.out _).mono ?_; rintro e w11 ⟨rfl, h⟩; subst h; refine Hid.out ?_)
        refine Lib.hid ?_
        go_wp2_with (go_at_call 143; refine (K13.out _ _ hv10).mono ?_; rintro e w12 ⟨rfl, hb12⟩; refine Hid.out ?_)
        refine Lib.hid ?_
        go_wp2
        go_ret
        exact ⟨rfl, Below.chain hb34 (Below.chain hb9 (Below.chain hb10 hb12))⟩
      · have KM := Lib.hid (HM1.out hr); have HR := Z2.out hpq hr; clear Z1 Z2 Z3 HM1 HM2 hpq; subst HR
        go_enter Tryz.func164, Tryz.ntmps164
        go_wp2_with (go_at_call 146; refine (K1.out _).mono ?_; rintro e w1 ⟨rfl, h⟩; subst h; refine Hid.out ?_)
        refine Lib.hid ?_
        go_wp2_with (go_at_call 146; refine (K2.out _).mono ?_; rintro e w2 ⟨rfl, h⟩; subst h; refine Hid.out ?_)
        refine Lib.hid ?_
        go_wp2_with (go_at_call 145; refine (K3.out _).mono ?_; rintro e w3 ⟨v3, rfl, hv3, hb3⟩; refine Hid.out ?_)
        refine Lib.hid ?_
        go_wp2_with (go_at_call 145; refine (K4.out _).mono ?_; rintro e w4 ⟨v4, rfl, hv4, hb4⟩; refine Hid.out ?_)
        refine Lib.hid ?_
        have hv3' := hv3.mono hb4; have hb34 := Below.chain hb3 hb4; clear hv3 hb3 hb4
        go_wp2_with (go_at_call 140; refine (K5.out _).mono ?_; rintro e w5 ⟨rfl, h⟩; subst h; refine Hid.out ?_)
        refine Lib.hid ?_
        go_wp2_with (go_at_call 140; refine (K6.out _).mono ?_; rintro e w6 ⟨rfl, h⟩; subst h; refine Hid.out ?_)
        refine Lib.hid ?_
        go_wp2_with (go_at_call 149; refine (K8.out _ _ hv3').mono ?_; rintro e w7 ⟨v7, rfl, hv7, h⟩; subst h; refine Hid.out ?_)
        refine Lib.hid ?_
        go_wp2_with (go_at_call 149; refine (K9.out _ _ hv4).mono ?_; rintro e w8 ⟨v8, rfl, hv8, h⟩; subst h; refine Hid.out ?_)
        refine Lib.hid ?_
        go_wp2_with (go_at_call 162; refine (K10.out _ _ _ hv7 hv8).mono ?_; rintro e w9 ⟨rfl, hb9⟩; refine Hid.out ?_)
        have hv3'' := hv3'.mono hb9; have hv4'' := hv4.mono hb9
        refine Lib.hid ?_
        go_wp2_with (go_at_call 196; refine (KM.out _ _ _ hv3'' hv4'').mono ?_; rintro e w10 ⟨v10, rfl, hv10, hb10⟩; refine Hid.out ?_)
        refine Lib.hid ?_
        go_wp2_with (go_at_call 140; refine (K5.out _).mono ?_; rintro e w11 ⟨rfl, h⟩; subst h; refine Hid.out ?_)
        refine Lib.hid ?_
        go_wp2_with (go_at_call 143; refine (K12.out _ _ hv10).mono ?_; rintro e w12 ⟨rfl, hb12⟩; refine Hid.out ?_)
        refine Lib.hid ?_
        go_wp2
        go_ret
        exact ⟨rfl, Below.chain hb34 (Below.chain hb9 (Below.chain hb10 hb12))⟩

theorem refSumI (s t : ByteArray) (x y : Int) (w : World) (hs : bytes s = Lib.itoa x) (ht : bytes t = Lib.itoa y) (hls : s.size ≤ 100000000) (hlt : t.size ≤ 100000000) :
    Calls Tryz.prog 164 #[.string s, .string t] w (Bret (.string (str (Lib.itoa (x + y)))) w) := by
  by_cases h : (Lib.decDigits x.natAbs).length ≤ 17 ∧ (Lib.decDigits y.natAbs).length ≤ 17
  · exact sum_short s t x y w hs ht hls hlt h.1 h.2
  · exact sum_long s t x y w hs ht hls hlt h
end Go.Proofs.YtbadibbdoljjhaaGreatDoor
