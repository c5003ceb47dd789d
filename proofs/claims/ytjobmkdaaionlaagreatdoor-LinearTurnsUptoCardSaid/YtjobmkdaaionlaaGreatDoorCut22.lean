import Derived.Test.YtjobmkdaaionlaaGreatDoorCut21

set_option linter.unusedVariables false
/-
  The reference: split (long division).
-/
namespace Go.Proofs.YtjobmkdaaionlaaGreatDoor
open Go Go.Proofs Go.RowKit
theorem DAt.drop {w : World} {b o c : Nat} {l : List Nat} (h : DAt w (some ⟨b, o, none⟩) c l) (k : Nat) (hk : k ≤ l.length) : DAt w (some ⟨b, o + k, none⟩) (c - k) (l.drop k) := by
  obtain ⟨h1, h2, h3⟩ := h
  refine ⟨by simp; omega, by omega, ?_⟩
  rcases h3 with ⟨h3, -⟩ | ⟨b', off, he, hlt, hc⟩
  · left; rw [h3]; simp
  · injection he with he; injection he with e1 e2 _
    subst e1; subst e2
    refine .inr ⟨b, o + k, rfl, hlt, fun j hj => ?_⟩
    rw [List.length_drop] at hj
    have := hc (k + j) (by omega)
    rw [Nat.add_assoc, this]
    rw [List.getD_eq_getElem?_getD, List.getD_eq_getElem?_getD, List.getElem?_drop]
def cellN (w : World) (g i : Nat) : Nat := match w.cell? ⟨g, i, none⟩ with | some (.int _ n) => n.toNat | _ => 0
theorem cellN_eq {w : World} {g i n : Nat} (h : w.cell? ⟨g, i, none⟩ = some (.int .i64 (n : Int))) : cellN w g i = n := by unfold cellN; rw [h]; simp
theorem owns_empty (w : World) (B : Nat) (hB : B ≤ w.heap.size) : (w.alloc (Obj.cells #[] 3)).ownsRow B 3 1 (.slice (some ⟨w.heap.size, 0, none⟩) 0 0) 0 (dcellsOf []) := by
  refine ⟨rfl, .inr ⟨w.heap.size, 0, #[], rfl, hB, ?_, Nat.le_refl _, by decide, rfl, rfl⟩⟩
  show (w.heap.push _)[w.heap.size]? = _
  rw [Array.getElem?_push_size]
theorem owns_lit (w : World) (B d : Nat) (hB : B ≤ w.heap.size) : (w.alloc (Obj.cells #[.int .i64 (d : Int)] 3)).ownsRow B 3 1 (.slice (some ⟨w.heap.size, 0, none⟩) 1 1) 1 (dcellsOf [d]) := by
  refine ⟨rfl, .inr ⟨w.heap.size, 1, #[.int .i64 (d : Int)], rfl, hB, ?_, Nat.le_refl _, by decide, rfl, rfl⟩⟩
  show (w.heap.push _)[w.heap.size]? = _
  rw [Array.getElem?_push_size]
theorem set_getD_self (S : List Nat) (i v : Nat) (h : i < S.length) (hv : S.getD i 0 = v) : S.set i v = S := by
  subst hv
  rw [getD_lt _ _ h, List.set_getElem_self]
theorem DBlk.below {w w' : World} {b : Nat} {l : List Nat} (h : DBlk w b l) (hb : Below w.heap.size w w') : DBlk w' b l := h.keep (grown_of_below hb) (by simp)
set_option maxRecDepth 20000 in
set_option maxHeartbeats 16000000 in
theorem split_pos (x y : Nat) (bx ox cx : Nat) (vy : Value) (w : World) (hx : DAt w (some ⟨bx, ox, none⟩) cx (nl x)) (hbx : bx < w.heap.size) (hy : DV w vy (nl y)) (hy0 : y ≠ 0)
    (hlx : (nl x).length ≤ 1000000000) (hly : (nl y).length ≤ 100000000) :
    Calls Tryz.prog 116 #[.slice (some ⟨bx, ox, none⟩) (nl x).length cx, vy] w fun e w' => ∃ v1 v2, e = .returned (.tuple #[v1, v2]) ∧ DV w' v1 (nl (x / y)) ∧ DV w' v2 (nl (x % y)) ∧ Below w.heap.size w w' := by
  obtain ⟨i0, hi, hz0, hz1, hz2⟩ := info_parts dinfoU32
  obtain ⟨ap, cy, rfl, hyr⟩ := hy
  have hy1 : 0 < (nl y).length := List.length_pos_iff.2 fun e => hy0 (nl_nil_iff.1 e)
  obtain ⟨N, hN⟩ : ∃ N : Nat, N = (nl x).length + 1 - (nl y).length := ⟨_, rfl⟩
  have hq0 := QuoInv.start x y N hy0 hN
  have hge := nl_ge (x := x) hy0 hN
  have hmax : max 0 (((nl x).length : Int) - ((nl y).length : Int) + 1) = (N : Int) := by omega
  have hNl : N ≤ (nl x).length := by omega
  have hcx := hx.1; have hcx2 := hx.2.1
  have hsrc : DAt w (some ⟨bx, ox + N, none⟩) (cx - N) ((nl x).drop N) := hx.drop N hNl
  rw [nl_drop] at hsrc
  have hsl : (nl (x / 10 ^ N)).length = (nl x).length - N := by rw [← nl_drop, List.length_drop]
  have hmod : x / 10 ^ N % y = x / 10 ^ N := Nat.mod_eq_of_lt hge
  have CO : ∀ (r : Nat) (v : Value) (W : World), Below w.heap.size w W → DV W v (nl r) → Calls Tryz.prog 137 #[v, .slice ap (nl y).length cy] W fun e w' => e = .returned (.int .i64 (cmpN r y)) ∧ Below W.heap.size W w' := fun r v W hW hv => refOrder_any r y v _ W hv ⟨ap, cy, rfl, hyr.mono hW⟩
  have CM : ∀ (r : Nat) (v : Value) (W : World), y ≤ r → (nl r).length ≤ 1000000000 → Below w.heap.size w W → DV W v (nl r) → Calls Tryz.prog 144 #[v, .slice ap (nl y).length cy] W (DRetF (nl (r - y)) W) := fun r v W hle hl hW hv => by
    have := refMinus_fresh (nl r) (nl y) v _ W hv ⟨ap, cy, rfl, hyr.mono hW⟩ (nl_small r) (nl_small y) hl (by rw [dv_limbs, dv_limbs]; exact hle) (fun e => by have := nl_nil_iff.1 e; omega)
    rwa [dv_limbs, dv_limbs] at this
  have CC : ∀ (d r : Nat) (v : Value) (W : World) (B : Nat), d < 10 → (nl r).length ≤ 1000000000 → DVF B W v (d :: nl r) → Calls Tryz.prog 117 #[v] W fun e w' => ∃ v', e = .returned v' ∧ DVF B W v' (nl (10 * r + d)) ∧ w' = W := fun d r v W B hd hl hv => by
    have := cut_fresh (d :: nl r) v W B hv (dg_cons_digit d r hd) (by simp; omega)
    rwa [nl_cons_digit] at this
  have CQ : ∀ (S : List Nat) (v : Value) (W : World), QuoInv x y N 0 S → DV W v S → Calls Tryz.prog 117 #[v] W fun e w' => ∃ v', e = .returned v' ∧ DV W v' (nl (x / y)) ∧ w' = W := fun S v W hq hv => by
    have := cut_any S v W hv hq.dg (by rw [hq.len]; omega)
    rwa [hq.done] at this
  have hlr : ∀ r, r ≤ 10 * y → (nl r).length ≤ 1000000000 := fun r hr => by
    have h1 := nl_length_mono hr
    have h2 : (nl (10 * y)).length ≤ (nl y).length + 1 := by
      refine nl_length_le ?_
      have h3 := dlt_pow_limbs y
      rw [Nat.pow_succ]; omega
    omega
  have HGD : ∀ i, i < N → ∀ W : World, Below w.heap.size w W → W.cell? ⟨bx, ox + i, none⟩ = some (.int .i64 ((x / 10 ^ i % 10 : Nat) : Int)) := fun i hi W hW => by
    have := (hx.mono hW).get i (by omega)
    rwa [nl_getD] at this
  have hny : (nl y).length ≤ 1000000000 := by omega
  generalize hn : (nl x).length = n at *
  generalize hm : (nl y).length = m at *
  have KO := Lib.hid CO; have KM := Lib.hid CM; have KC := Lib.hid CC; have KQ := Lib.hid CQ; have KG := Lib.hid HGD; have HQ0 := Lib.hid hq0; have HSRC := Lib.hid hsrc; have HSL := Lib.hid hsl; have HMOD := Lib.hid hmod; have HLR := Lib.hid hlr; have HY0 := Lib.hid hy0
  clear CO CM CC CQ HGD hq0 hsrc hsl hmod hlr hx hyr hn hm hN hge hy0 hny
  by_cases hcap : N = cx
  · have hNn : n = N := by omega
    subst hNn
    obtain rfl := hcap
    have hxz : nl (x / 10 ^ n) = [] := List.length_eq_zero_iff.1 (by rw [HSL.out, Nat.sub_self])
    have HXZ := Lib.hid hxz
    clear hxz
    go_enter Tryz.func116, Tryz.ntmps116
    go_wp2_with (at_make; refine wpList_make_full _ rfl _ _ 64 rfl w.heap.size 3 i0 (.int .i64 0) 1 Tryz.underlying64 hi hz0 hz1 .i64 .i64 _ _ n rfl rfl ?a1 ?a2 ?a3 ?a4 ?a5 ?_)
    case a1 => simp
    case a2 => simp
    case a3 => rw [hz2]; omega
    case a4 => unfold maxLen; omega
    case a5 => exact Nat.le_refl _
    intro W0 hown hg
    have hb0 := dblk_of_made hown
    clear hown
    generalize hgg : w.heap.size = g at hb0 ⊢
    have hBB : Below w.heap.size w W0 := below_of_grown hg
    have hg0 := hb0.lt
    have HBB := Lib.hid hBB; have HB0 := Lib.hid hb0; have HGG := Lib.hid hgg
    clear hBB hb0 hg hgg
    go_wp2_with (at_builtin; refine wpList_append_own _ rfl _ _ 64 rfl (g + 1) 3 i0 (.int .i64 0) 1 8 Tryz.underlying64 hi hz0 hz1 hz2 rfl (by decide) _ _ _ rfl (owns_empty W0 (g + 1) hg0) ⟨bx, ox, none⟩ 0 0 (dcellsOf ([] : List Nat)) rfl ?b0 ?b1 ?b2 ?b3 ?b4 ?b5 ?_)
    case b0 => rfl
    case b1 => intro j u hj; simp [dcellsOf] at hj
    case b2 => intro u hu; obtain ⟨z, _, rfl⟩ := List.mem_map.1 hu; rfl
    case b3 => unfold maxLen; omega
    case b4 => omega
    case b5 => simp; omega
    intro v0 w1 hown1 hgrow1 hnil1
    have hbw1 : Below W0.heap.size W0 w1 := ((Below.refl _ _).alloc (Nat.le_refl _) _).grown hgrow1 (by simp) (fun k hk => ((owns_empty W0 W0.heap.size (Nat.le_refl _)).lt k hk).1)
    have hd0 : DVF (g + 1) w1 v0 (nl (x / 10 ^ n % y)) := by
      have h1 := dvf_of_owns (l := [] ++ ([] : List Nat)) (by rw [dcellsOf_append]; exact hown1) (fun e => by first | exact hnil1 e | (have := hnil1.1 e; simp at this))
      rw [HMOD.out]
      rw [HXZ.out]; exact h1
    have hB1 : DBlk w1 g (List.replicate n 0) := HB0.out.below hbw1
    have hBw1 : Below w.heap.size w w1 := Below.chain HBB.out hbw1
    have HD0 := Lib.hid hd0; have HB1 := Lib.hid hB1; have HBW1 := Lib.hid hBw1
    clear hd0 hB1 hBw1 hown1 hgrow1 hnil1 hbw1
    go_wp2_with fail
    go_loopw [8, 9] (fun rv iv wr => ∃ (k : Nat) (S : List Nat), k ≤ n ∧ iv = .int .i64 ((k : Int) - 1) ∧ DBlk wr g S ∧ QuoInv x y n k S ∧ DVF (g + 1) wr rv (nl (x / 10 ^ k % y)) ∧ Below w.heap.size w wr) (fun _ iv _ => (intOf iv + 1).toNat)
    case atStart => exact ⟨n, _, Nat.le_refl _, rfl, HB1.out, HQ0.out, HD0.out, HBW1.out⟩
    case round =>
      obtain ⟨wo, rfl⟩ : ∃ wo : World, wo = wr := ⟨_, rfl⟩
      obtain ⟨k, S, hk, rfl, hbl, hq, hrv, hbw⟩ := hrel
      have HBL := Lib.hid hbl; have HQ := Lib.hid hq; have HBW := Lib.hid hbw
      have hgl := hbl.lt
      clear hbl hq hbw
      rcases Nat.eq_zero_or_pos k with rfl | hk0
      · rw [Nat.pow_zero, Nat.div_one] at hrv
        have hr : DAt wo (some ⟨g, 0, none⟩) n S := HBL.out.row (by rw [HQ.out.len]; exact Nat.le_refl _) (by omega)
        have hc0 := KQ.out S (.slice (some ⟨g, 0, none⟩) S.length n) wo HQ.out ⟨_, _, rfl, hr⟩
        rw [HQ.out.len] at hc0
        obtain ⟨rb, ro, rc, rfl, hrr, -⟩ := hrv
        have HRR := Lib.hid hrr
        generalize hrl : (nl (x % y)).length = rl at *
        have HRL0 := Lib.hid hrl; clear hrl
        have K := Lib.hid hc0
        clear hc0 hr hrr
        go_wp2_with (go_at_call 117; refine K.out.mono ?_; rintro e w2 ⟨v1, rfl, hv1, h⟩; subst h; refine Hid.out ?_)
        refine Lib.hid ?_
        go_wp2
        refine bodyPost_ret (v := .tuple #[v1, .slice (some ⟨rb, ro, none⟩) rl rc]) (by simp [results, Tryz.results116, go_sem]) rfl ?_
        exact ⟨_, _, rfl, hv1, ⟨_, rc, by rw [HRL0.out], HRR.out⟩, HBW.out⟩
      · obtain ⟨i, rfl⟩ : ∃ i, k = i + 1 := ⟨k - 1, by omega⟩
        have e1 : (((i + 1 : Nat) : Int) - 1) = (i : Int) := by omega
        rw [e1]
        have ci := KG.out i (by omega) wo HBW.out
        have hd9 : x / 10 ^ i % 10 < 10 := Nat.mod_lt _ (by decide)
        have hRy : x / 10 ^ (i + 1) % y < y := Nat.mod_lt _ (by have := HY0.out; omega)
        have hstep := fun (S' : List Nat) (c r : Nat) (h1 : S' = S.set i c) (h2 : r + c * y = 10 * (x / 10 ^ (i + 1) % y) + x / 10 ^ i % 10) (h3 : r < y) => HQ.out.step (by omega) h1 HY0.out h2 h3
        have hmodi := fun (c r : Nat) (h2 : r + c * y = 10 * (x / 10 ^ (i + 1) % y) + x / 10 ^ i % 10) (h3 : r < y) => (place_done x y i r c HY0.out h2 h3).1
        have hcl := fun (c r : Nat) (h2 : r + c * y = 10 * (x / 10 ^ (i + 1) % y) + x / 10 ^ i % 10) => place_lt x y i r c HY0.out h2
        have hz := HQ.out.zero
        have hSl : i < S.length := by rw [HQ.out.len]; omega
        generalize x / 10 ^ i % 10 = d at *
        generalize x / 10 ^ (i + 1) % y = R at *
        have hRl := HLR.out R (by omega)
        obtain ⟨rb, ro, rc, rfl, hrr, hrb⟩ := hrv
        have hrn : (nl R).length ≤ rc := hrr.1
        have HST := Lib.hid hstep; have HMI := Lib.hid hmodi; have HCL := Lib.hid hcl; have HRR := Lib.hid hrr
        clear hstep hmodi hcl hrr e1
        generalize hrl : (nl R).length = rl at *
        have HRL := Lib.hid hrl; clear hrl
        go_wp2_with (at_builtin; refine wpList_append_own _ rfl _ _ 64 rfl (g + 1) 3 i0 (.int .i64 0) 1 8 Tryz.underlying64 hi hz0 hz1 hz2 rfl (by decide) _ _ _ rfl (owns_lit wo (g + 1) d hgl) ⟨rb, ro, none⟩ rl rc (dcellsOf (nl R)) rfl ?b0 ?b1 ?b2 ?b3 ?b4 ?b5 ?_)
        case b0 => rw [dcellsOf_length, HRL.out, Nat.mul_one]
        case b1 => exact dnews_at (HRR.out.mono ((Below.refl _ _).alloc (Nat.le_refl _) _))
        case b2 => intro u hu; obtain ⟨z, _, rfl⟩ := List.mem_map.1 hu; rfl
        case b3 => unfold maxLen; omega
        case b4 => omega
        case b5 => simp; omega
        intro v2 w2 hown2 hgrow2 hnil2
        have hbw2 : Below wo.heap.size wo w2 := ((Below.refl _ _).alloc (Nat.le_refl _) _).grown hgrow2 (by simp) (fun k hk => ((owns_lit wo wo.heap.size d (Nat.le_refl _)).lt k hk).1)
        have hd2 : DVF (g + 1) w2 v2 (d :: nl R) := dvf_of_owns (l := [d] ++ nl R) (by rw [dcellsOf_append]; exact hown2) (fun e => by first | exact hnil2 e | (have := hnil2.1 e; simp at this))
        have hc2 := KC.out d R v2 w2 (g + 1) hd9 (by rw [HRL.out]; exact hRl) hd2
        have hB2 := HBL.out.below hbw2
        have hBw2 := Below.chain HBW.out hbw2
        have K2 := Lib.hid hc2; have HB2 := Lib.hid hB2; have HBW2 := Lib.hid hBw2
        clear hown2 hgrow2 hnil2 hbw2 hd2 hc2 hB2 hBw2 ci
        go_wp2_with (go_at_call 117; refine K2.out.mono ?_; rintro e w3 ⟨v3, rfl, hv3, h⟩; subst h; refine Hid.out ?_)
        have HV3 := Lib.hid hv3; clear hv3
        refine Lib.hid ?_
        go_wp2_with fail
        go_loopw [8] (fun qv wr => ∃ (c r : Nat) (S' : List Nat), r + c * y = 10 * R + d ∧ S' = S.set i c ∧ DBlk wr g S' ∧ DVF (g + 1) wr qv (nl r) ∧ Below w.heap.size w wr) (fun _ wr => 10 - cellN wr g i)
        case atStart => exact ⟨0, 10 * R + d, S, by simp, (set_getD_self S i 0 hSl hz).symm, HB2.out, HV3.out, HBW2.out⟩
        case round =>
          obtain ⟨c, r, S', heq, hset, hblq, hrq, hbwq⟩ := hrel
          have hc9 := HCL.out c r heq
          have hr10 : r ≤ 10 * y := by have := hRy; omega
          have hrl2 := HLR.out r hr10
          have ho := KO.out r _ wr hbwq hrq.dv
          have cq : wr.cell? ⟨g, i, none⟩ = some (.int .i64 (c : Int)) := by
            have := hblq.cell i (by rw [hset]; simpa using hSl)
            rwa [hset, getD_lt _ _ (by simpa using hSl), List.getElem_set_self] at this
          have fq := hblq.frozen i
          have HEQ := Lib.hid heq; have HSET := Lib.hid hset; have HBLQ := Lib.hid hblq; have HRQ := Lib.hid hrq; have HBWQ := Lib.hid hbwq; have KO1 := Lib.hid ho
          have hgq := hblq.lt
          clear heq hset hblq hrq hbwq ho
          by_cases hyr : y ≤ r
          · have hcmp : decide (0 ≤ cmpN r y) = true := by
              rw [decide_eq_true_eq]; unfold cmpN; rw [if_neg (by omega)]; split <;> omega
            generalize cmpN r y = cm at *
            go_wp2_with (go_at_call 137; refine KO1.out.mono ?_; rintro e w4 ⟨rfl, hb4⟩; refine Hid.out ?_)
            have hv4 := HRQ.out.mono hb4
            have hbw4 := Below.chain HBWQ.out hb4
            have km := KM.out r _ w4 hyr hrl2 hbw4 hv4.dv
            have hbl4 := HBLQ.out.below hb4
            have K4 := Lib.hid km; have HB4 := Lib.hid hb4; have HBL4 := Lib.hid hbl4
            clear km hb4 hbl4 hv4 hbw4
            refine Lib.hid ?_
            go_wp2_with (go_at_call 144; refine K4.out.mono ?_; rintro e w5 ⟨v5, rfl, hv5, hb5⟩; refine Hid.out ?_)
            have hb45 := Below.chain HB4.out hb5
            have cq5 := (hb45.cell (p := ⟨g, i, none⟩) hgq).trans cq
            have fq5 := (hb45.frozen (p := ⟨g, i, none⟩) hgq).trans fq
            have hbl5 := HBLQ.out.below hb45
            have hset5 := hbl5.set i (c + 1)
            have hv5' := (hv5.le (B' := g + 1) (by have := HBL4.out.lt; omega)).set (g := g) (by omega) i (.int .i64 ((c : Int) + 1))
            have hbw5 := (Below.chain HBWQ.out hb45).setCell (p := ⟨g, i, none⟩) (by have := HGG.out; simp; omega) (.int .i64 ((c : Int) + 1))
            have hcell : cellN (w5.setCell ⟨g, i, none⟩ (.int .i64 ((c : Int) + 1))) g i = c + 1 := cellN_eq (cellSet cq5 _)
            have hcell0 := cellN_eq cq
            have H1 := Lib.hid hset5; have H2 := Lib.hid hv5'; have H3 := Lib.hid hbw5; have H4 := Lib.hid hcell; have H5 := Lib.hid hcell0
            clear hset5 hv5' hbw5 hcell hcell0 hbl5 hb45 hv5 hb5 cq fq
            refine Lib.hid ?_
            go_wp2
            go_roundw
            case rel =>
              refine ⟨c + 1, r - y, S.set i (c + 1), ?_, rfl, ?_, H2.out, H3.out⟩
              · have := HEQ.out; rw [Nat.add_mul]; omega
              · have := H1.out
                rw [HSET.out, List.set_set] at this
                exact this
            case measure => rw [H4.out, H5.out]; omega
          · have hcmp : decide (0 ≤ cmpN r y) = false := by
              rw [decide_eq_false_iff_not]; unfold cmpN; rw [if_pos (by omega)]; omega
            have hq2 := HST.out S' c r HSET.out HEQ.out (by omega)
            have hm2 := HMI.out c r HEQ.out (by omega)
            generalize cmpN r y = cm at *
            have HQ2 := Lib.hid hq2; have HM2 := Lib.hid hm2
            clear hq2 hm2 cq fq
            go_wp2_with (go_at_call 137; refine KO1.out.mono ?_; rintro e w4 ⟨rfl, hb4⟩; refine Hid.out ?_)
            have hv4 := HRQ.out.mono hb4
            have hbw4 := Below.chain HBWQ.out hb4
            have hbl4 := HBLQ.out.below hb4
            have H1 := Lib.hid hv4; have H2 := Lib.hid hbw4; have H3 := Lib.hid hbl4
            clear hv4 hbw4 hbl4 hb4
            refine Lib.hid ?_
            go_wp2
            go_roundw
            case rel => exact ⟨i, S', by omega, by go_num, H3.out, HQ2.out, by rw [HM2.out]; exact H1.out, H2.out⟩
            case measure => simp [intOf]
  · have hcap' : N < cx := by omega
    have hlen := HSL.out
    clear hcap
    by_cases hnn : n = N
    · subst hnn
      have hxz : nl (x / 10 ^ n) = [] := List.length_eq_zero_iff.1 (by rw [HSL.out, Nat.sub_self])
      have HXZ := Lib.hid hxz
      clear hxz hlen
      go_enter Tryz.func116, Tryz.ntmps116
      go_wp2_with (at_make; refine wpList_make_full _ rfl _ _ 64 rfl w.heap.size 3 i0 (.int .i64 0) 1 Tryz.underlying64 hi hz0 hz1 .i64 .i64 _ _ n rfl rfl ?a1 ?a2 ?a3 ?a4 ?a5 ?_)
      case a1 => simp
      case a2 => simp
      case a3 => rw [hz2]; omega
      case a4 => unfold maxLen; omega
      case a5 => exact Nat.le_refl _
      intro W0 hown hg
      have hb0 := dblk_of_made hown
      clear hown
      generalize hgg : w.heap.size = g at hb0 ⊢
      have hBB : Below w.heap.size w W0 := below_of_grown hg
      have hg0 := hb0.lt
      have HBB := Lib.hid hBB; have HB0 := Lib.hid hb0; have HGG := Lib.hid hgg
      clear hBB hb0 hg hgg
      go_wp2_with (at_builtin; refine wpList_append_own _ rfl _ _ 64 rfl (g + 1) 3 i0 (.int .i64 0) 1 8 Tryz.underlying64 hi hz0 hz1 hz2 rfl (by decide) _ _ _ rfl (owns_empty W0 (g + 1) hg0) ⟨bx, ox + n, none⟩ 0 (cx - n) (dcellsOf ([] : List Nat)) rfl ?b0 ?b1 ?b2 ?b3 ?b4 ?b5 ?_)
      case b0 => rfl
      case b1 => intro j u hj; simp [dcellsOf] at hj
      case b2 => intro u hu; obtain ⟨z, _, rfl⟩ := List.mem_map.1 hu; rfl
      case b3 => unfold maxLen; omega
      case b4 => omega
      case b5 => simp; omega
      intro v0 w1 hown1 hgrow1 hnil1
      have hbw1 : Below W0.heap.size W0 w1 := ((Below.refl _ _).alloc (Nat.le_refl _) _).grown hgrow1 (by simp) (fun k hk => ((owns_empty W0 W0.heap.size (Nat.le_refl _)).lt k hk).1)
      have hd0 : DVF (g + 1) w1 v0 (nl (x / 10 ^ n % y)) := by
        have h1 := dvf_of_owns (l := [] ++ ([] : List Nat)) (by rw [dcellsOf_append]; exact hown1) (fun e => by first | exact hnil1 e | (have := hnil1.1 e; simp at this))
        rw [HMOD.out]
        rw [HXZ.out]; exact h1
      have hB1 : DBlk w1 g (List.replicate n 0) := HB0.out.below hbw1
      have hBw1 : Below w.heap.size w w1 := Below.chain HBB.out hbw1
      have HD0 := Lib.hid hd0; have HB1 := Lib.hid hB1; have HBW1 := Lib.hid hBw1
      clear hd0 hB1 hBw1 hown1 hgrow1 hnil1 hbw1
      go_wp2_with fail
      go_loopw [8, 9] (fun rv iv wr => ∃ (k : Nat) (S : List Nat), k ≤ n ∧ iv = .int .i64 ((k : Int) - 1) ∧ DBlk wr g S ∧ QuoInv x y n k S ∧ DVF (g + 1) wr rv (nl (x / 10 ^ k % y)) ∧ Below w.heap.size w wr) (fun _ iv _ => (intOf iv + 1).toNat)
      case atStart => exact ⟨n, _, Nat.le_refl _, rfl, HB1.out, HQ0.out, HD0.out, HBW1.out⟩
      case round =>
        obtain ⟨wo, rfl⟩ : ∃ wo : World, wo = wr := ⟨_, rfl⟩
        obtain ⟨k, S, hk, rfl, hbl, hq, hrv, hbw⟩ := hrel
        have HBL := Lib.hid hbl; have HQ := Lib.hid hq; have HBW := Lib.hid hbw
        have hgl := hbl.lt
        clear hbl hq hbw
        rcases Nat.eq_zero_or_pos k with rfl | hk0
        · rw [Nat.pow_zero, Nat.div_one] at hrv
          have hr : DAt wo (some ⟨g, 0, none⟩) n S := HBL.out.row (by rw [HQ.out.len]; exact Nat.le_refl _) (by omega)
          have hc0 := KQ.out S (.slice (some ⟨g, 0, none⟩) S.length n) wo HQ.out ⟨_, _, rfl, hr⟩
          rw [HQ.out.len] at hc0
          obtain ⟨rb, ro, rc, rfl, hrr, -⟩ := hrv
          have HRR := Lib.hid hrr
          generalize hrl : (nl (x % y)).length = rl at *
          have HRL0 := Lib.hid hrl; clear hrl
          have K := Lib.hid hc0
          clear hc0 hr hrr
          go_wp2_with (go_at_call 117; refine K.out.mono ?_; rintro e w2 ⟨v1, rfl, hv1, h⟩; subst h; refine Hid.out ?_)
          refine Lib.hid ?_
          go_wp2
          refine bodyPost_ret (v := .tuple #[v1, .slice (some ⟨rb, ro, none⟩) rl rc]) (by simp [results, Tryz.results116, go_sem]) rfl ?_
          exact ⟨_, _, rfl, hv1, ⟨_, rc, by rw [HRL0.out], HRR.out⟩, HBW.out⟩
        · obtain ⟨i, rfl⟩ : ∃ i, k = i + 1 := ⟨k - 1, by omega⟩
          have e1 : (((i + 1 : Nat) : Int) - 1) = (i : Int) := by omega
          rw [e1]
          have ci := KG.out i (by omega) wo HBW.out
          have hd9 : x / 10 ^ i % 10 < 10 := Nat.mod_lt _ (by decide)
          have hRy : x / 10 ^ (i + 1) % y < y := Nat.mod_lt _ (by have := HY0.out; omega)
          have hstep := fun (S' : List Nat) (c r : Nat) (h1 : S' = S.set i c) (h2 : r + c * y = 10 * (x / 10 ^ (i + 1) % y) + x / 10 ^ i % 10) (h3 : r < y) => HQ.out.step (by omega) h1 HY0.out h2 h3
          have hmodi := fun (c r : Nat) (h2 : r + c * y = 10 * (x / 10 ^ (i + 1) % y) + x / 10 ^ i % 10) (h3 : r < y) => (place_done x y i r c HY0.out h2 h3).1
          have hcl := fun (c r : Nat) (h2 : r + c * y = 10 * (x / 10 ^ (i + 1) % y) + x / 10 ^ i % 10) => place_lt x y i r c HY0.out h2
          have hz := HQ.out.zero
          have hSl : i < S.length := by rw [HQ.out.len]; omega
          generalize x / 10 ^ i % 10 = d at *
          generalize x / 10 ^ (i + 1) % y = R at *
          have hRl := HLR.out R (by omega)
          obtain ⟨rb, ro, rc, rfl, hrr, hrb⟩ := hrv
          have hrn : (nl R).length ≤ rc := hrr.1
          have HST := Lib.hid hstep; have HMI := Lib.hid hmodi; have HCL := Lib.hid hcl; have HRR := Lib.hid hrr
          clear hstep hmodi hcl hrr e1
          generalize hrl : (nl R).length = rl at *
          have HRL := Lib.hid hrl; clear hrl
          go_wp2_with (at_builtin; refine wpList_append_own _ rfl _ _ 64 rfl (g + 1) 3 i0 (.int .i64 0) 1 8 Tryz.underlying64 hi hz0 hz1 hz2 rfl (by decide) _ _ _ rfl (owns_lit wo (g + 1) d hgl) ⟨rb, ro, none⟩ rl rc (dcellsOf (nl R)) rfl ?b0 ?b1 ?b2 ?b3 ?b4 ?b5 ?_)
          case b0 => rw [dcellsOf_length, HRL.out, Nat.mul_one]
          case b1 => exact dnews_at (HRR.out.mono ((Below.refl _ _).alloc (Nat.le_refl _) _))
          case b2 => intro u hu; obtain ⟨z, _, rfl⟩ := List.mem_map.1 hu; rfl
          case b3 => unfold maxLen; omega
          case b4 => omega
          case b5 => simp; omega
          intro v2 w2 hown2 hgrow2 hnil2
          have hbw2 : Below wo.heap.size wo w2 := ((Below.refl _ _).alloc (Nat.le_refl _) _).grown hgrow2 (by simp) (fun k hk => ((owns_lit wo wo.heap.size d (Nat.le_refl _)).lt k hk).1)
          have hd2 : DVF (g + 1) w2 v2 (d :: nl R) := dvf_of_owns (l := [d] ++ nl R) (by rw [dcellsOf_append]; exact hown2) (fun e => by first | exact hnil2 e | (have := hnil2.1 e; simp at this))
          have hc2 := KC.out d R v2 w2 (g + 1) hd9 (by rw [HRL.out]; exact hRl) hd2
          have hB2 := HBL.out.below hbw2
          have hBw2 := Below.chain HBW.out hbw2
          have K2 := Lib.hid hc2; have HB2 := Lib.hid hB2; have HBW2 := Lib.hid hBw2
          clear hown2 hgrow2 hnil2 hbw2 hd2 hc2 hB2 hBw2 ci
          go_wp2_with (go_at_call 117; refine K2.out.mono ?_; rintro e w3 ⟨v3, rfl, hv3, h⟩; subst h; refine Hid.out ?_)
          have HV3 := Lib.hid hv3; clear hv3
          refine Lib.hid ?_
          go_wp2_with fail
          go_loopw [8] (fun qv wr => ∃ (c r : Nat) (S' : List Nat), r + c * y = 10 * R + d ∧ S' = S.set i c ∧ DBlk wr g S' ∧ DVF (g + 1) wr qv (nl r) ∧ Below w.heap.size w wr) (fun _ wr => 10 - cellN wr g i)
          case atStart => exact ⟨0, 10 * R + d, S, by simp, (set_getD_self S i 0 hSl hz).symm, HB2.out, HV3.out, HBW2.out⟩
          case round =>
            obtain ⟨c, r, S', heq, hset, hblq, hrq, hbwq⟩ := hrel
            have hc9 := HCL.out c r heq
            have hr10 : r ≤ 10 * y := by have := hRy; omega
            have hrl2 := HLR.out r hr10
            have ho := KO.out r _ wr hbwq hrq.dv
            have cq : wr.cell? ⟨g, i, none⟩ = some (.int .i64 (c : Int)) := by
              have := hblq.cell i (by rw [hset]; simpa using hSl)
              rwa [hset, getD_lt _ _ (by simpa using hSl), List.getElem_set_self] at this
            have fq := hblq.frozen i
            have HEQ := Lib.hid heq; have HSET := Lib.hid hset; have HBLQ := Lib.hid hblq; have HRQ := Lib.hid hrq; have HBWQ := Lib.hid hbwq; have KO1 := Lib.hid ho
            have hgq := hblq.lt
            clear heq hset hblq hrq hbwq ho
            by_cases hyr : y ≤ r
            · have hcmp : decide (0 ≤ cmpN r y) = true := by
                rw [decide_eq_true_eq]; unfold cmpN; rw [if_neg (by omega)]; split <;> omega
              generalize cmpN r y = cm at *
              go_wp2_with (go_at_call 137; refine KO1.out.mono ?_; rintro e w4 ⟨rfl, hb4⟩; refine Hid.out ?_)
              have hv4 := HRQ.out.mono hb4
              have hbw4 := Below.chain HBWQ.out hb4
              have km := KM.out r _ w4 hyr hrl2 hbw4 hv4.dv
              have hbl4 := HBLQ.out.below hb4
              have K4 := Lib.hid km; have HB4 := Lib.hid hb4; have HBL4 := Lib.hid hbl4
              clear km hb4 hbl4 hv4 hbw4
              refine Lib.hid ?_
              go_wp2_with (go_at_call 144; refine K4.out.mono ?_; rintro e w5 ⟨v5, rfl, hv5, hb5⟩; refine Hid.out ?_)
              have hb45 := Below.chain HB4.out hb5
              have cq5 := (hb45.cell (p := ⟨g, i, none⟩) hgq).trans cq
              have fq5 := (hb45.frozen (p := ⟨g, i, none⟩) hgq).trans fq
              have hbl5 := HBLQ.out.below hb45
              have hset5 := hbl5.set i (c + 1)
              have hv5' := (hv5.le (B' := g + 1) (by have := HBL4.out.lt; omega)).set (g := g) (by omega) i (.int .i64 ((c : Int) + 1))
              have hbw5 := (Below.chain HBWQ.out hb45).setCell (p := ⟨g, i, none⟩) (by have := HGG.out; simp; omega) (.int .i64 ((c : Int) + 1))
              have hcell : cellN (w5.setCell ⟨g, i, none⟩ (.int .i64 ((c : Int) + 1))) g i = c + 1 := cellN_eq (cellSet cq5 _)
              have hcell0 := cellN_eq cq
              have H1 := Lib.hid hset5; have H2 := Lib.hid hv5'; have H3 := Lib.hid hbw5; have H4 := Lib.hid hcell; have H5 := Lib.hid hcell0
              clear hset5 hv5' hbw5 hcell hcell0 hbl5 hb45 hv5 hb5 cq fq
              refine Lib.hid ?_
              go_wp2
              go_roundw
              case rel =>
                refine ⟨c + 1, r - y, S.set i (c + 1), ?_, rfl, ?_, H2.out, H3.out⟩
                · have := HEQ.out; rw [Nat.add_mul]; omega
                · have := H1.out
                  rw [HSET.out, List.set_set] at this
                  exact this
              case measure => rw [H4.out, H5.out]; omega
            · have hcmp : decide (0 ≤ cmpN r y) = false := by
                rw [decide_eq_false_iff_not]; unfold cmpN; rw [if_pos (by omega)]; omega
              have hq2 := HST.out S' c r HSET.out HEQ.out (by omega)
              have hm2 := HMI.out c r HEQ.out (by omega)
              generalize cmpN r y = cm at *
              have HQ2 := Lib.hid hq2; have HM2 := Lib.hid hm2
              clear hq2 hm2 cq fq
              go_wp2_with (go_at_call 137; refine KO1.out.mono ?_; rintro e w4 ⟨rfl, hb4⟩; refine Hid.out ?_)
              have hv4 := HRQ.out.mono hb4
              have hbw4 := Below.chain HBWQ.out hb4
              have hbl4 := HBLQ.out.below hb4
              have H1 := Lib.hid hv4; have H2 := Lib.hid hbw4; have H3 := Lib.hid hbl4
              clear hv4 hbw4 hbl4 hb4
              refine Lib.hid ?_
              go_wp2
              go_roundw
              case rel => exact ⟨i, S', by omega, by go_num, H3.out, HQ2.out, by rw [HM2.out]; exact H1.out, H2.out⟩
              case measure => simp [intOf]
    · have HLEN := Lib.hid hlen
      clear hlen
      go_enter Tryz.func116, Tryz.ntmps116
      go_wp2_with (at_make; refine wpList_make_full _ rfl _ _ 64 rfl w.heap.size 3 i0 (.int .i64 0) 1 Tryz.underlying64 hi hz0 hz1 .i64 .i64 _ _ N rfl rfl ?a1 ?a2 ?a3 ?a4 ?a5 ?_)
      case a1 => simp
      case a2 => simp
      case a3 => rw [hz2]; omega
      case a4 => unfold maxLen; omega
      case a5 => exact Nat.le_refl _
      intro W0 hown hg
      have hb0 := dblk_of_made hown
      clear hown
      generalize hgg : w.heap.size = g at hb0 ⊢
      have hBB : Below w.heap.size w W0 := below_of_grown hg
      have hg0 := hb0.lt
      have HBB := Lib.hid hBB; have HB0 := Lib.hid hb0; have HGG := Lib.hid hgg
      clear hBB hb0 hg hgg
      go_wp2_with (at_builtin; refine wpList_append_own _ rfl _ _ 64 rfl (g + 1) 3 i0 (.int .i64 0) 1 8 Tryz.underlying64 hi hz0 hz1 hz2 rfl (by decide) _ _ _ rfl (owns_empty W0 (g + 1) hg0) ⟨bx, ox + N, none⟩ (n - N) (cx - N) (dcellsOf (nl (x / 10 ^ N))) rfl ?b0 ?b1 ?b2 ?b3 ?b4 ?b5 ?_)
      case b0 => rw [dcellsOf_length, HLEN.out, Nat.mul_one]
      case b1 => exact dnews_at (HSRC.out.mono (HBB.out.alloc (by have := HGG.out; omega) _))
      case b2 => intro u hu; obtain ⟨z, _, rfl⟩ := List.mem_map.1 hu; rfl
      case b3 => unfold maxLen; omega
      case b4 => omega
      case b5 => simp; omega
      intro v0 w1 hown1 hgrow1 hnil1
      have hbw1 : Below W0.heap.size W0 w1 := ((Below.refl _ _).alloc (Nat.le_refl _) _).grown hgrow1 (by simp) (fun k hk => ((owns_empty W0 W0.heap.size (Nat.le_refl _)).lt k hk).1)
      have hd0 : DVF (g + 1) w1 v0 (nl (x / 10 ^ N % y)) := by
        have h1 := dvf_of_owns (l := [] ++ (nl (x / 10 ^ N))) (by rw [dcellsOf_append]; exact hown1) (fun e => by first | exact hnil1 e | (have := hnil1.1 e; simp at this))
        rw [HMOD.out]
        exact h1
      have hB1 : DBlk w1 g (List.replicate N 0) := HB0.out.below hbw1
      have hBw1 : Below w.heap.size w w1 := Below.chain HBB.out hbw1
      have HD0 := Lib.hid hd0; have HB1 := Lib.hid hB1; have HBW1 := Lib.hid hBw1
      clear hd0 hB1 hBw1 hown1 hgrow1 hnil1 hbw1
      go_wp2_with fail
      go_loopw [8, 9] (fun rv iv wr => ∃ (k : Nat) (S : List Nat), k ≤ N ∧ iv = .int .i64 ((k : Int) - 1) ∧ DBlk wr g S ∧ QuoInv x y N k S ∧ DVF (g + 1) wr rv (nl (x / 10 ^ k % y)) ∧ Below w.heap.size w wr) (fun _ iv _ => (intOf iv + 1).toNat)
      case atStart => exact ⟨N, _, Nat.le_refl _, rfl, HB1.out, HQ0.out, HD0.out, HBW1.out⟩
      case round =>
        obtain ⟨wo, rfl⟩ : ∃ wo : World, wo = wr := ⟨_, rfl⟩
        obtain ⟨k, S, hk, rfl, hbl, hq, hrv, hbw⟩ := hrel
        have HBL := Lib.hid hbl; have HQ := Lib.hid hq; have HBW := Lib.hid hbw
        have hgl := hbl.lt
        clear hbl hq hbw
        rcases Nat.eq_zero_or_pos k with rfl | hk0
        · rw [Nat.pow_zero, Nat.div_one] at hrv
          have hr : DAt wo (some ⟨g, 0, none⟩) N S := HBL.out.row (by rw [HQ.out.len]; exact Nat.le_refl _) (by omega)
          have hc0 := KQ.out S (.slice (some ⟨g, 0, none⟩) S.length N) wo HQ.out ⟨_, _, rfl, hr⟩
          rw [HQ.out.len] at hc0
          obtain ⟨rb, ro, rc, rfl, hrr, -⟩ := hrv
          have HRR := Lib.hid hrr
          generalize hrl : (nl (x % y)).length = rl at *
          have HRL0 := Lib.hid hrl; clear hrl
          have K := Lib.hid hc0
          clear hc0 hr hrr
          go_wp2_with (go_at_call 117; refine K.out.mono ?_; rintro e w2 ⟨v1, rfl, hv1, h⟩; subst h; refine Hid.out ?_)
          refine Lib.hid ?_
          go_wp2
          refine bodyPost_ret (v := .tuple #[v1, .slice (some ⟨rb, ro, none⟩) rl rc]) (by simp [results, Tryz.results116, go_sem]) rfl ?_
          exact ⟨_, _, rfl, hv1, ⟨_, rc, by rw [HRL0.out], HRR.out⟩, HBW.out⟩
        · obtain ⟨i, rfl⟩ : ∃ i, k = i + 1 := ⟨k - 1, by omega⟩
          have e1 : (((i + 1 : Nat) : Int) - 1) = (i : Int) := by omega
          rw [e1]
          have ci := KG.out i (by omega) wo HBW.out
          have hd9 : x / 10 ^ i % 10 < 10 := Nat.mod_lt _ (by decide)
          have hRy : x / 10 ^ (i + 1) % y < y := Nat.mod_lt _ (by have := HY0.out; omega)
          have hstep := fun (S' : List Nat) (c r : Nat) (h1 : S' = S.set i c) (h2 : r + c * y = 10 * (x / 10 ^ (i + 1) % y) + x / 10 ^ i % 10) (h3 : r < y) => HQ.out.step (by omega) h1 HY0.out h2 h3
          have hmodi := fun (c r : Nat) (h2 : r + c * y = 10 * (x / 10 ^ (i + 1) % y) + x / 10 ^ i % 10) (h3 : r < y) => (place_done x y i r c HY0.out h2 h3).1
          have hcl := fun (c r : Nat) (h2 : r + c * y = 10 * (x / 10 ^ (i + 1) % y) + x / 10 ^ i % 10) => place_lt x y i r c HY0.out h2
          have hz := HQ.out.zero
          have hSl : i < S.length := by rw [HQ.out.len]; omega
          generalize x / 10 ^ i % 10 = d at *
          generalize x / 10 ^ (i + 1) % y = R at *
          have hRl := HLR.out R (by omega)
          obtain ⟨rb, ro, rc, rfl, hrr, hrb⟩ := hrv
          have hrn : (nl R).length ≤ rc := hrr.1
          have HST := Lib.hid hstep; have HMI := Lib.hid hmodi; have HCL := Lib.hid hcl; have HRR := Lib.hid hrr
          clear hstep hmodi hcl hrr e1
          generalize hrl : (nl R).length = rl at *
          have HRL := Lib.hid hrl; clear hrl
          go_wp2_with (at_builtin; refine wpList_append_own _ rfl _ _ 64 rfl (g + 1) 3 i0 (.int .i64 0) 1 8 Tryz.underlying64 hi hz0 hz1 hz2 rfl (by decide) _ _ _ rfl (owns_lit wo (g + 1) d hgl) ⟨rb, ro, none⟩ rl rc (dcellsOf (nl R)) rfl ?b0 ?b1 ?b2 ?b3 ?b4 ?b5 ?_)
          case b0 => rw [dcellsOf_length, HRL.out, Nat.mul_one]
          case b1 => exact dnews_at (HRR.out.mono ((Below.refl _ _).alloc (Nat.le_refl _) _))
          case b2 => intro u hu; obtain ⟨z, _, rfl⟩ := List.mem_map.1 hu; rfl
          case b3 => unfold maxLen; omega
          case b4 => omega
          case b5 => simp; omega
          intro v2 w2 hown2 hgrow2 hnil2
          have hbw2 : Below wo.heap.size wo w2 := ((Below.refl _ _).alloc (Nat.le_refl _) _).grown hgrow2 (by simp) (fun k hk => ((owns_lit wo wo.heap.size d (Nat.le_refl _)).lt k hk).1)
          have hd2 : DVF (g + 1) w2 v2 (d :: nl R) := dvf_of_owns (l := [d] ++ nl R) (by rw [dcellsOf_append]; exact hown2) (fun e => by first | exact hnil2 e | (have := hnil2.1 e; simp at this))
          have hc2 := KC.out d R v2 w2 (g + 1) hd9 (by rw [HRL.out]; exact hRl) hd2
          have hB2 := HBL.out.below hbw2
          have hBw2 := Below.chain HBW.out hbw2
          have K2 := Lib.hid hc2; have HB2 := Lib.hid hB2; have HBW2 := Lib.hid hBw2
          clear hown2 hgrow2 hnil2 hbw2 hd2 hc2 hB2 hBw2 ci
          go_wp2_with (go_at_call 117; refine K2.out.mono ?_; rintro e w3 ⟨v3, rfl, hv3, h⟩; subst h; refine Hid.out ?_)
          have HV3 := Lib.hid hv3; clear hv3
          refine Lib.hid ?_
          go_wp2_with fail
          go_loopw [8] (fun qv wr => ∃ (c r : Nat) (S' : List Nat), r + c * y = 10 * R + d ∧ S' = S.set i c ∧ DBlk wr g S' ∧ DVF (g + 1) wr qv (nl r) ∧ Below w.heap.size w wr) (fun _ wr => 10 - cellN wr g i)
          case atStart => exact ⟨0, 10 * R + d, S, by simp, (set_getD_self S i 0 hSl hz).symm, HB2.out, HV3.out, HBW2.out⟩
          case round =>
            obtain ⟨c, r, S', heq, hset, hblq, hrq, hbwq⟩ := hrel
            have hc9 := HCL.out c r heq
            have hr10 : r ≤ 10 * y := by have := hRy; omega
            have hrl2 := HLR.out r hr10
            have ho := KO.out r _ wr hbwq hrq.dv
            have cq : wr.cell? ⟨g, i, none⟩ = some (.int .i64 (c : Int)) := by
              have := hblq.cell i (by rw [hset]; simpa using hSl)
              rwa [hset, getD_lt _ _ (by simpa using hSl), List.getElem_set_self] at this
            have fq := hblq.frozen i
            have HEQ := Lib.hid heq; have HSET := Lib.hid hset; have HBLQ := Lib.hid hblq; have HRQ := Lib.hid hrq; have HBWQ := Lib.hid hbwq; have KO1 := Lib.hid ho
            have hgq := hblq.lt
            clear heq hset hblq hrq hbwq ho
            by_cases hyr : y ≤ r
            · have hcmp : decide (0 ≤ cmpN r y) = true := by
                rw [decide_eq_true_eq]; unfold cmpN; rw [if_neg (by omega)]; split <;> omega
              generalize cmpN r y = cm at *
              go_wp2_with (go_at_call 137; refine KO1.out.mono ?_; rintro e w4 ⟨rfl, hb4⟩; refine Hid.out ?_)
              have hv4 := HRQ.out.mono hb4
              have hbw4 := Below.chain HBWQ.out hb4
              have km := KM.out r _ w4 hyr hrl2 hbw4 hv4.dv
              have hbl4 := HBLQ.out.below hb4
              have K4 := Lib.hid km; have HB4 := Lib.hid hb4; have HBL4 := Lib.hid hbl4
              clear km hb4 hbl4 hv4 hbw4
              refine Lib.hid ?_
              go_wp2_with (go_at_call 144; refine K4.out.mono ?_; rintro e w5 ⟨v5, rfl, hv5, hb5⟩; refine Hid.out ?_)
              have hb45 := Below.chain HB4.out hb5
              have cq5 := (hb45.cell (p := ⟨g, i, none⟩) hgq).trans cq
              have fq5 := (hb45.frozen (p := ⟨g, i, none⟩) hgq).trans fq
              have hbl5 := HBLQ.out.below hb45
              have hset5 := hbl5.set i (c + 1)
              have hv5' := (hv5.le (B' := g + 1) (by have := HBL4.out.lt; omega)).set (g := g) (by omega) i (.int .i64 ((c : Int) + 1))
              have hbw5 := (Below.chain HBWQ.out hb45).setCell (p := ⟨g, i, none⟩) (by have := HGG.out; simp; omega) (.int .i64 ((c : Int) + 1))
              have hcell : cellN (w5.setCell ⟨g, i, none⟩ (.int .i64 ((c : Int) + 1))) g i = c + 1 := cellN_eq (cellSet cq5 _)
              have hcell0 := cellN_eq cq
              have H1 := Lib.hid hset5; have H2 := Lib.hid hv5'; have H3 := Lib.hid hbw5; have H4 := Lib.hid hcell; have H5 := Lib.hid hcell0
              clear hset5 hv5' hbw5 hcell hcell0 hbl5 hb45 hv5 hb5 cq fq
              refine Lib.hid ?_
              go_wp2
              go_roundw
              case rel =>
                refine ⟨c + 1, r - y, S.set i (c + 1), ?_, rfl, ?_, H2.out, H3.out⟩
                · have := HEQ.out; rw [Nat.add_mul]; omega
                · have := H1.out
                  rw [HSET.out, List.set_set] at this
                  exact this
              case measure => rw [H4.out, H5.out]; omega
            · have hcmp : decide (0 ≤ cmpN r y) = false := by
                rw [decide_eq_false_iff_not]; unfold cmpN; rw [if_pos (by omega)]; omega
              have hq2 := HST.out S' c r HSET.out HEQ.out (by omega)
              have hm2 := HMI.out c r HEQ.out (by omega)
              generalize cmpN r y = cm at *
              have HQ2 := Lib.hid hq2; have HM2 := Lib.hid hm2
              clear hq2 hm2 cq fq
              go_wp2_with (go_at_call 137; refine KO1.out.mono ?_; rintro e w4 ⟨rfl, hb4⟩; refine Hid.out ?_)
              have hv4 := HRQ.out.mono hb4
              have hbw4 := Below.chain HBWQ.out hb4
              have hbl4 := HBLQ.out.below hb4
              have H1 := Lib.hid hv4; have H2 := Lib.hid hbw4; have H3 := Lib.hid hbl4
              clear hv4 hbw4 hbl4 hb4
              refine Lib.hid ?_
              go_wp2
              go_roundw
              case rel => exact ⟨i, S', by omega, by go_num, H3.out, HQ2.out, by rw [HM2.out]; exact H1.out, H2.out⟩
              case measure => simp [intOf]
set_option maxHeartbeats 1000000 in
theorem refFloorS (x y : Int) (w : World) (hx : x.natAbs < 100000000000000000) (hy : y.natAbs < 100000000000000000) (hy0 : y ≠ 0) :
    Calls Tryz.prog 114 #[.int .i64 x, .int .i64 y] w fun e w' => e = .returned (.int .i64 (Int.fdiv x y)) ∧ Below w.heap.size w w' := by
  go_enter Tryz.func114, Tryz.ntmps114
  have hb : (x.tdiv y).natAbs ≤ x.natAbs := by rw [Int.natAbs_tdiv]; exact Nat.div_le_self _ _
  have hf := @Int.fdiv_eq_tdiv x y
  have HB := Lib.hid hb; have HF := Lib.hid hf; have HX := Lib.hid hx; have HY := Lib.hid hy; clear hb hf hx hy
  go_wp2
  all_goals
    refine bodyPost_ret (v := .int .i64 (x.fdiv y)) ?_ rfl ⟨rfl, Below.refl _ _⟩
    simp [results, Tryz.results114, go_sem]
    have hb := HB.out
    have hx := HX.out
    rw [HF.out]
    rcases Int.lt_or_gt_of_ne hy0 with hy1 | hy1
    · have hsg := Int.sign_eq_neg_one_of_neg hy1
      first
      | (rename_i h; rw [if_pos (Int.dvd_of_tmod_eq_zero h)]; unfold wrap64; omega)
      | (rename_i h1 h2
         rw [if_neg (fun d => h1 (Int.dvd_iff_tmod_eq_zero.1 d))]
         by_cases hx0 : x < 0 <;> simp [hx0, hy1, h1] at h2 <;> (unfold wrap64; (repeat' split) <;> omega))
    · have hsg := Int.sign_eq_one_of_pos hy1
      have hy2 : ¬ y < 0 := by omega
      first
      | (rename_i h; rw [if_pos (Int.dvd_of_tmod_eq_zero h)]; unfold wrap64; omega)
      | (rename_i h1 h2
         rw [if_neg (fun d => h1 (Int.dvd_iff_tmod_eq_zero.1 d))]
         by_cases hx0 : x < 0 <;> simp [hx0, hy2, h1] at h2 <;> (unfold wrap64; (repeat' split) <;> omega))
end Go.Proofs.YtjobmkdaaionlaaGreatDoor
