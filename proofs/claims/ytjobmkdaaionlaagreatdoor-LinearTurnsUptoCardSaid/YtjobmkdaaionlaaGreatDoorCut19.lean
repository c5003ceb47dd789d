import Derived.Test.YtjobmkdaaionlaaGreatDoorCut18
import Derived.Test.YtjobmkdaaionlaaGreatDoorCut5

set_option linter.unusedVariables false
/-
  The reference: minus.
-/
namespace Go.Proofs.YtjobmkdaaionlaaGreatDoor
open Go Go.Proofs Go.RowKit
structure MinusInv (x y s : List Nat) (i c : Nat) : Prop where
  len : s.length = i
  dg : Dg s
  carry : c ≤ 1
  eq : dv (x.take i) + c * 10 ^ i = dv s + dv (y.take i)
theorem MinusInv.start (x y : List Nat) : MinusInv x y [] 0 0 := ⟨rfl, Dg.nil, by omega, by simp [dv]⟩
theorem MinusInv.step {x y s : List Nat} {i c : Nat} (h : MinusInv x y s i c) (hx : Dg x) (hy : Dg y) :
    (x.getD i 0 < y.getD i 0 + c → MinusInv x y (s ++ [x.getD i 0 + 10 - (y.getD i 0 + c)]) (i + 1) 1) ∧
    (¬ x.getD i 0 < y.getD i 0 + c → MinusInv x y (s ++ [x.getD i 0 - (y.getD i 0 + c)]) (i + 1) 0) := by
  have h1 := hx.getD i; have h2 := hy.getD i; have h3 := h.carry; have h4 := h.eq
  constructor
  · intro hlt
    refine ⟨by simp [h.len], h.dg.append (Dg.cons (by omega) Dg.nil), by omega, ?_⟩
    rw [dv_append, h.len, dv_take_getD, dv_take_getD, Nat.pow_succ]
    generalize x.getD i 0 = a at *
    generalize y.getD i 0 = b at *
    obtain ⟨r, hr⟩ : ∃ r, a + 10 = b + c + r := ⟨a + 10 - (b + c), by omega⟩
    have e5 : a + 10 - (b + c) = r := by omega
    rw [e5]
    simp only [dv]
    generalize 10 ^ i = p at *
    have e6 : (a + 10) * p = (b + c + r) * p := by rw [hr]
    grind
  · intro hlt
    refine ⟨by simp [h.len], h.dg.append (Dg.cons (by omega) Dg.nil), by omega, ?_⟩
    rw [dv_append, h.len, dv_take_getD, dv_take_getD, Nat.pow_succ]
    generalize x.getD i 0 = a at *
    generalize y.getD i 0 = b at *
    obtain ⟨r, hr⟩ : ∃ r, a = b + c + r := ⟨a - (b + c), by omega⟩
    have e5 : a - (b + c) = r := by omega
    rw [e5]
    simp only [dv]
    generalize 10 ^ i = p at *
    have e6 : a * p = (b + c + r) * p := by rw [hr]
    grind
theorem MinusInv.done {x y s : List Nat} {c : Nat} (h : MinusInv x y s x.length c) (hx : Dg x) (hle : dv y ≤ dv x) : dv s = dv x - dv y := by
  have h4 := h.eq
  rw [List.take_of_length_le (Nat.le_refl _)] at h4
  have h1 := dv_lt hx
  have h2 := dv_lt h.dg
  rw [h.len] at h2
  have h3 := h.carry
  have hy : dv (y.take x.length) = dv y := by
    by_cases hl : x.length ≤ y.length
    · have hs := dv_split y x.length hl
      have h0 : dv (y.drop x.length) = 0 := by
        rcases Nat.eq_zero_or_pos (dv (y.drop x.length)) with h0 | h0
        · exact h0
        · exfalso
          have : 10 ^ x.length * 1 ≤ 10 ^ x.length * dv (y.drop x.length) := Nat.mul_le_mul_left _ h0
          omega
      rw [h0] at hs
      omega
    · rw [List.take_of_length_le (by omega)]
  rw [hy] at h4
  have hc : c = 0 := by
    rcases Nat.eq_zero_or_pos c with h0 | h0
    · exact h0
    · exfalso
      have : c = 1 := by omega
      subst this
      generalize (10 : Nat) ^ x.length = p at *
      omega
  subst hc
  omega
set_option maxHeartbeats 4000000 in
theorem refMinus_any (X Y : List Nat) (vx vy : Value) (w : World) (hx : DV w vx X) (hy : DV w vy Y) (hX : Dg X) (hY : Dg Y) (hlx : X.length ≤ 1000000000) (hle : dv Y ≤ dv X) :
    Calls Tryz.prog 144 #[vx, vy] w (DRet (nl (dv X - dv Y)) w) := by
  obtain ⟨i0, hi, hz0, hz1, hz2⟩ := info_parts dinfoU32
  have A2 : ∀ i : Nat, i ≤ 9223372036854775807 → ∀ W, Below w.heap.size w W → Calls Tryz.prog 165 #[vy, .int .i64 i] W fun e w' => e = .returned (.int .i64 (Y.getD i 0 : Nat)) ∧ w' = W := fun i hi W hW => at_any Y vy i W (hy.mono hW) hi
  have hdX := fun i => hX.getD i
  have hdY := fun i => hY.getD i
  have hst : ∀ (s : List Nat) (i c : Nat), MinusInv X Y s i c → (X.getD i 0 < Y.getD i 0 + c → MinusInv X Y (s ++ [X.getD i 0 + 10 - (Y.getD i 0 + c)]) (i + 1) 1) ∧ (¬ X.getD i 0 < Y.getD i 0 + c → MinusInv X Y (s ++ [X.getD i 0 - (Y.getD i 0 + c)]) (i + 1) 0) := fun s i c h => h.step hX hY
  have hdn : ∀ (s : List Nat) (c : Nat), MinusInv X Y s X.length c → dv s = dv X - dv Y := fun s c h => h.done hX hle
  have hs0 := MinusInv.start X Y
  obtain ⟨ao, cx, rfl, hx⟩ := hx
  obtain ⟨ap, cy, rfl, -⟩ := hy
  have HXR : ∀ i, i < X.length → ∃ bx ox, ao = some ⟨bx, ox, none⟩ ∧ bx < w.heap.size ∧ w.cell? ⟨bx, ox + i, none⟩ = some (.int .i64 (X.getD i 0 : Nat)) := fun i hi => by
    have hne : X ≠ [] := fun e => by rw [e] at hi; simp at hi
    obtain ⟨bx, ox, rfl⟩ := hx.addr hne
    exact ⟨bx, ox, rfl, hx.block hne, hx.get i hi⟩
  have hcx := hx.1; have hcx2 := hx.2.1
  have CC : ∀ (S : List Nat) (v : Value) (W : World), DV W v S → Dg S → S.length ≤ 1000000000000 → Calls Tryz.prog 117 #[v] W fun e w' => ∃ v', e = .returned v' ∧ DV W v' (nl (dv S)) ∧ w' = W := fun S v W h1 h2 h3 => cut_any S v W h1 h2 h3
  generalize X.length = n at *
  generalize Y.length = m at *
  have KA2 := Lib.hid A2; have KX := Lib.hid hdX; have KY := Lib.hid hdY; have KST := Lib.hid hst; have KDN := Lib.hid hdn; have KS0 := Lib.hid hs0; have KC := Lib.hid CC; have KR := Lib.hid HXR
  clear A2 hdX hdY hst hdn hs0 CC hX hY hx HXR hle
  go_enter Tryz.func144, Tryz.ntmps144
  go_wp2_with fail
  go_loopw [5, 6, 7] (fun v cv iv wr => ∃ (i c : Nat) (S : List Nat), i ≤ n ∧ iv = .int .i64 i ∧ cv = .int .i64 c ∧ MinusInv X Y S i c ∧ wr.ownsRow w.heap.size 3 1 v S.length (dcellsOf S) ∧ Below w.heap.size w wr) (fun _ _ iv _ => n - (intOf iv).toNat)
  case atStart => exact ⟨0, 0, [], by omega, rfl, rfl, KS0.out, World.ownsRow_nil _ _ _ _, Below.refl _ _⟩
  case round =>
    obtain ⟨i, c, S, hi1, rfl, rfl, hinv, hown, hbw⟩ := hrel
    have hc := hinv.carry
    have hln := hinv.len
    have HI := Lib.hid hinv; have HL := Lib.hid hln; clear hinv hln
    by_cases hlt : i < n
    · have hx9 := KX.out i; have hy9 := KY.out i
      have a2 := KA2.out i (by omega)
      have hstp := KST.out S i c HI.out
      have hSl : S.length ≤ 1000000001 := by rw [HL.out]; omega
      obtain ⟨bx, ox, rfl, hbx, hcell⟩ := KR.out i hlt
      have cx1 : wr.cell? ⟨bx, ox + i, none⟩ = some (.int .i64 (X.getD i 0 : Nat)) := (hbw.cell (p := ⟨bx, ox + i, none⟩) hbx).trans hcell
      generalize X.getD i 0 = xd at *
      generalize Y.getD i 0 = yd at *
      have A2 := Lib.hid a2; have HST := Lib.hid hstp; have HBW := Lib.hid hbw; have HOW := Lib.hid hown
      clear a2 hstp hcell hown
      by_cases hneg : xd < yd + c
      · have t1 : decide ((xd : Int) - (yd : Int) - (c : Int) < 0) = true := decide_eq_true (by omega)
        have h1 := HST.out.1 hneg
        have H1 := Lib.hid h1; clear h1 HST
        obtain ⟨d, hd⟩ : ∃ d : Nat, d = xd + 10 - (yd + c) := ⟨_, rfl⟩
        rw [← hd] at H1
        have hdi : (xd : Int) - (yd : Int) - (c : Int) + 10 = (d : Int) := by omega
        have hd9 : d < 10 := by omega
        have HDI := Lib.hid hdi
        clear hd hdi
        go_wp2
        go_quiet ((go_at_call 165; exact Calls.quiet_of_same (A2.out _ (HBW.out.trans (below_drewN (Below.refl _ _) _)))))
        have hbw1 := hbw.trans (below_drewN (Below.refl _ _) nq)
        have hown := ownsRow_drewN HOW.out nq
        generalize wr.drewN nq = W1 at *
        go_wp2_with (at_builtin; refine wpList_append_own _ rfl _ _ 64 rfl w.heap.size 3 i0 (.int .i64 0) 1 8 Tryz.underlying64 hi hz0 hz1 hz2 rfl (by decide) _ _ _ rfl (hown.alloc _) ⟨W1.heap.size, 0, none⟩ 1 1 [.int .i64 ((xd : Int) - (yd : Int) - (c : Int) + 10)] rfl rfl ?c1 ?c2 ?c3 ?c4 ?c5 ?_)
        case c1 => intro j u hj; match j, hj with | 0, hj => (simp at hj; subst hj; simp [Addr.add])
        case c2 => intro u hu; simp at hu; subst hu; rfl
        case c3 => unfold maxLen; omega
        case c4 => omega
        case c5 => have := hbw1.size; simp; omega
        intro v' w2 hown' hgrow _
        go_wp2
        go_roundw
        case rel =>
          refine ⟨i + 1, 1, S ++ [d], by omega, by go_num, rfl, H1.out, ?_, ?_⟩
          · rw [HDI.out] at hown'
            rw [dcellsOf_append, List.length_append]; exact hown'
          · exact hbw1.trans (((Below.refl _ _).alloc (by have := hbw1.size; omega) _).grown hgrow (by have := hbw1.size; simp; omega) (fun k hk => ((hown.lt k hk)).1))
        case measure => simp [intOf]; omega
      · have t1 : decide ((xd : Int) - (yd : Int) - (c : Int) < 0) = false := decide_eq_false (by omega)
        have h1 := HST.out.2 hneg
        have H1 := Lib.hid h1; clear h1 HST
        obtain ⟨d, hd⟩ : ∃ d : Nat, d = xd - (yd + c) := ⟨_, rfl⟩
        rw [← hd] at H1
        have hdi : (xd : Int) - (yd : Int) - (c : Int) = (d : Int) := by omega
        have hd9 : d < 10 := by omega
        have HDI := Lib.hid hdi
        clear hd hdi
        go_wp2
        go_quiet ((go_at_call 165; exact Calls.quiet_of_same (A2.out _ (HBW.out.trans (below_drewN (Below.refl _ _) _)))))
        have hbw1 := hbw.trans (below_drewN (Below.refl _ _) nq)
        have hown := ownsRow_drewN HOW.out nq
        generalize wr.drewN nq = W1 at *
        go_wp2_with (at_builtin; refine wpList_append_own _ rfl _ _ 64 rfl w.heap.size 3 i0 (.int .i64 0) 1 8 Tryz.underlying64 hi hz0 hz1 hz2 rfl (by decide) _ _ _ rfl (hown.alloc _) ⟨W1.heap.size, 0, none⟩ 1 1 [.int .i64 ((xd : Int) - (yd : Int) - (c : Int))] rfl rfl ?c1 ?c2 ?c3 ?c4 ?c5 ?_)
        case c1 => intro j u hj; match j, hj with | 0, hj => (simp at hj; subst hj; simp [Addr.add])
        case c2 => intro u hu; simp at hu; subst hu; rfl
        case c3 => unfold maxLen; omega
        case c4 => omega
        case c5 => have := hbw1.size; simp; omega
        intro v' w2 hown' hgrow _
        go_wp2
        go_roundw
        case rel =>
          refine ⟨i + 1, 0, S ++ [d], by omega, by go_num, rfl, H1.out, ?_, ?_⟩
          · rw [HDI.out] at hown'
            rw [dcellsOf_append, List.length_append]; exact hown'
          · exact hbw1.trans (((Below.refl _ _).alloc (by have := hbw1.size; omega) _).grown hgrow (by have := hbw1.size; simp; omega) (fun k hk => ((hown.lt k hk)).1))
        case measure => simp [intOf]; omega
    · have hin : i = n := by omega
      subst hin
      have hd := KDN.out S c HI.out
      have hg := HI.out.dg
      obtain ⟨ar, cr, rfl, hr⟩ := drow_of_owns hown
      have hc0 := KC.out S _ _ ⟨ar, cr, rfl, hr⟩ hg (by rw [HL.out]; omega)
      rw [hd] at hc0
      have K := Lib.hid hc0; have HB := Lib.hid hbw
      clear hd hg hr hc0 hown hbw
      go_wp2_with (go_at_call 117; refine K.out.mono ?_; rintro e w1 ⟨v1, rfl, hv1, h⟩; subst h; refine Hid.out ?_)
      refine Lib.hid ?_
      go_wp2
      go_ret
      exact ⟨_, rfl, hv1, HB.out⟩
theorem DBlk.drewN {w : World} {b : Nat} {l : List Nat} (h : DBlk w b l) (n : Nat) : DBlk (w.drewN n) b l := h
theorem DMulInv.step' {p0 p y : List Nat} {a i j c : Nat} (h : DMulInv p0 p y a i j c) (hi : i + j < p0.length) (ha : a < 10) (hy : Dg y) :
    DMulInv p0 (p.set (i + j) ((c + (p.getD (i + j) 0 + a * y.getD j 0)) % 10)) y a i (j + 1) ((c + (p.getD (i + j) 0 + a * y.getD j 0)) / 10) := by
  rw [Nat.add_comm (p.getD (i + j) 0)]; exact h.step hi ha hy
set_option maxHeartbeats 8000000 in
theorem refTimes_any (X Y : List Nat) (vx vy : Value) (w : World) (hx : DV w vx X) (hy : DV w vy Y) (hsx : Dg X) (hsy : Dg Y) (hbx : X.length ≤ 1000000000) (hby : Y.length ≤ 1000000000) :
    Calls Tryz.prog 121 #[vx, vy] w (DRet (nl (dv X * dv Y)) w) := by
  obtain ⟨i0, hi, hz0, hz1, hz2⟩ := info_parts dinfoU32
  obtain ⟨ao, c, rfl, hx⟩ := hx
  obtain ⟨ap, d, rfl, hy⟩ := hy
  have CC : ∀ (S : List Nat) (v : Value) (W : World), DV W v S → Dg S → S.length ≤ 1000000000000 → Calls Tryz.prog 117 #[v] W fun e w' => ∃ v', e = .returned v' ∧ DV W v' (nl (dv S)) ∧ w' = W := fun S v W h1 h2 h3 => cut_any S v W h1 h2 h3
  have HX := Lib.hid hx; have HY := Lib.hid hy; have KC := Lib.hid CC
  have hcx := hx.1; have hcx2 := hx.2.1; have hcy := hy.1; have hcy2 := hy.2.1
  generalize hn : X.length = n at *
  generalize hm : Y.length = m at *
  have HN := Lib.hid hn; have HM := Lib.hid hm; have HSX := Lib.hid hsx; have HSY := Lib.hid hsy
  clear hn hm hx hy hsx hsy CC
  go_enter Tryz.func121, Tryz.ntmps121
  go_wp2_with (at_make; refine wpList_make_full _ rfl _ _ 64 rfl w.heap.size 3 i0 (.int .i64 0) 1 Tryz.underlying64 hi hz0 hz1 .i64 .i64 _ _ (n + m) rfl rfl ?a1 ?a2 ?a3 ?a4 ?a5 ?_)
  case a1 => simp
  case a2 => simp
  case a3 => rw [hz2]; omega
  case a4 => unfold maxLen; omega
  case a5 => exact Nat.le_refl _
  intro W0 hown hg
  have hb0 := dblk_of_made hown
  clear hown
  generalize hgg : w.heap.size = g at hb0 hg ⊢
  have HG := Lib.hid hgg; clear hgg
  have hBB : Below w.heap.size w W0 := below_of_grown hg
  have HBB := Lib.hid hBB; clear hBB hg
  go_wp2_with fail
  have HB0 := Lib.hid hb0; clear hb0
  go_loopw [6] (fun iv wr => ∃ (i : Nat) (P : List Nat), i ≤ n ∧ iv = .int .i64 i ∧ DBlk wr g P ∧ Dg P ∧ P.length = n + m ∧ dv (P.take (i + m)) = dv (X.take i) * dv Y ∧ W0.grownBy wr (some g)) (fun iv _ => n - (intOf iv).toNat)
  case atStart =>
    refine ⟨0, _, Nat.zero_le _, rfl, HB0.out, Dg.replicate _, by simp, ?_, grown_refl _ _⟩
    rw [List.take_replicate, dv_replicate]; simp [dv]
  case round =>
    obtain ⟨wo, rfl⟩ : ∃ wo : World, wo = wr := ⟨_, rfl⟩
    obtain ⟨i, P, hi, rfl, hbl, hsm, hln, hva, hgr⟩ := hrel
    have hbw : Below w.heap.size w wo := below_grown HBB.out hgr (by rw [HG.out]; exact Nat.le_refl _)
    have HBL := Lib.hid hbl; have HSM := Lib.hid hsm; have HLN := Lib.hid hln; have HVA := Lib.hid hva; have HGR := Lib.hid hgr; have HBW := Lib.hid hbw
    clear hbl hsm hln hva hgr hbw
    by_cases hin : i < n
    · obtain ⟨bx, ox, rfl⟩ := HX.out.addr (fun h => by have := HN.out; rw [h] at this; simp at this; omega)
      have ha := HSX.out.getD i
      generalize hae : X.getD i 0 = a at *
      have HAE := Lib.hid hae; clear hae
      go_wp2_with fail
      go_loopw [7, 8] (fun cv jv wr => ∃ (j q : Nat) (S : List Nat), j ≤ m ∧ jv = .int .i64 j ∧ cv = .int .i64 q ∧ DBlk wr g S ∧ DMulInv P S Y a i j q ∧ wo.grownBy wr (some g)) (fun _ jv _ => m - (intOf jv).toNat)
      case atStart => exact ⟨0, 0, P, Nat.zero_le _, rfl, rfl, HBL.out, DMulInv.start HSM.out, grown_refl _ _⟩
      case round =>
        obtain ⟨j, q, S, hj, rfl, rfl, hbl, hinv, hgr⟩ := hrel
        have hbw2 : Below w.heap.size w wr := below_grown HBW.out hgr (by rw [HG.out]; exact Nat.le_refl _)
        have hq := hinv.carry
        have HBS := Lib.hid hbl; have HI := Lib.hid hinv; have HGS := Lib.hid hgr; have HB2 := Lib.hid hbw2
        clear hbl hinv hgr hbw2
        by_cases hjm : j < m
        · obtain ⟨by_, oy, rfl⟩ := HY.out.addr (fun h => by have := HM.out; rw [h] at this; simp at this; omega)
          have cx := (HX.out.mono HB2.out).get i (by rw [HN.out]; exact hin)
          rw [HAE.out] at cx
          have cy := (HY.out.mono HB2.out).get j (by rw [HM.out]; exact hjm)
          have hSl : i + j < S.length := by rw [HI.out.len, HLN.out]; omega
          have cs := HBS.out.cell (i + j) hSl
          have hstep := HI.out.step' (by rw [HLN.out]; omega) ha HSY.out
          have hy1 := HSY.out.getD j
          have hs1 := HI.out.small.getD (i + j)
          generalize hbb : Y.getD j 0 = b at *
          generalize hss : S.getD (i + j) 0 = s at *
          obtain ⟨pr, hpr⟩ : ∃ pr : Nat, pr = a * b := ⟨_, rfl⟩
          have hp81 : pr ≤ 81 := by rw [hpr]; exact Nat.mul_le_mul (show a ≤ 9 by omega) (show b ≤ 9 by omega)
          have hpri : (a : Int) * (b : Int) = (pr : Int) := by rw [hpr, Int.natCast_mul]
          rw [← hpr] at hstep
          have HST := Lib.hid hstep; have HSS := Lib.hid hss
          clear hstep hpr hbb hss
          go_wp2
          go_quiet (fail)
          have HBS1 := HBS.out.drewN nq
          have HGS1 := grown_drew HGS.out nq
          generalize wr.drewN nq = W1 at *
          have cs1 := HBS1.cell (i + j) hSl
          have fs1 := HBS1.frozen (i + j)
          have hset := HBS1.set (i + j) ((q + (s + pr)) % 10)
          rw [HSS.out] at cs1
          have ev : (((q + (s + pr)) % 10 : Nat) : Int) = ((q : Int) + ((s : Int) + (pr : Int))) % 10 := by omega
          have eq : (((q + (s + pr)) / 10 : Nat) : Int) = ((q : Int) + ((s : Int) + (pr : Int))) / 10 := by omega
          rw [ev] at hset
          have HSE := Lib.hid hset; have EQ := Lib.hid eq; have HG1 := Lib.hid HGS1
          clear hset ev eq hSl HBS1 HGS1 cs cx cy
          go_wp2
          go_roundw
          case rel => exact ⟨j + 1, _, _, by omega, by go_num, by rw [← EQ.out], HSE.out, HST.out, grown_set HG1.out _ _⟩
          case measure => simp [intOf]; omega
        · have hj1 : j = m := by omega
          subst hj1
          have hSl : i + j < S.length := by rw [HI.out.len, HLN.out]; omega
          have cs := HBS.out.cell (i + j) hSl
          have fs := HBS.out.frozen (i + j)
          have hset := HBS.out.set (i + j) q
          have hI := HI.out
          rw [← HAE.out] at hI
          have hd := hI.done HM.out (by rw [HLN.out]; omega) HVA.out
          rw [HLN.out] at hd
          have HSE := Lib.hid hset; have HD := Lib.hid hd
          generalize S.getD (i + j) 0 = s at *
          clear hset hd hI hSl
          go_wp2
          go_roundw
          case rel => exact ⟨i + 1, _, by omega, by go_num, HSE.out, HD.out.1, HD.out.2.1, HD.out.2.2, grown_set (grown_trans HGR.out HGS.out) _ _⟩
          case measure => simp [intOf]; omega
    · have hi1 : i = n := by omega
      subst hi1
      have hval : dv P = dv X * dv Y := by
        have h1 := HVA.out
        rwa [List.take_of_length_le (by rw [HLN.out]; exact Nat.le_refl _), List.take_of_length_le (by rw [HN.out]; exact Nat.le_refl _)] at h1
      have hr : DAt wo (some ⟨g, 0, none⟩) (i + m) P := HBL.out.row (by rw [HLN.out]; exact Nat.le_refl _) (by omega)
      have hc0 := KC.out P (.slice (some ⟨g, 0, none⟩) P.length (i + m)) wo ⟨_, _, rfl, hr⟩ HSM.out (by rw [HLN.out]; omega)
      rw [hval, HLN.out] at hc0
      have K := Lib.hid hc0
      clear hval hc0 hr
      go_wp2_with (go_at_call 117; refine K.out.mono ?_; rintro e w1 ⟨v1, rfl, hv1, h⟩; subst h; refine Hid.out ?_)
      refine Lib.hid ?_
      go_wp2
      go_ret
      exact ⟨_, rfl, hv1, HBW.out⟩
def tx (v j : Nat) : List UInt8 := ((nl v).drop j).reverse.map digitC
theorem tx_end (v : Nat) : tx v (nl v).length = [] := by unfold tx; rw [List.drop_of_length_le (Nat.le_refl _)]; rfl
theorem tx_step (v j : Nat) (h : j < (nl v).length) : tx v j = tx v (j + 1) ++ [digitC ((nl v).getD j 0)] := by
  unfold tx
  rw [List.drop_eq_getElem_cons h, List.reverse_cons, List.map_append, getD_lt _ _ h]; rfl
theorem tx_length (v j : Nat) : (tx v j).length = (nl v).length - j := by unfold tx; simp
theorem digitC_dig (c : UInt8) (h : isDig c = true) : digitC (c.toNat - 48) = c := by
  have := isDig_iff.1 h
  unfold digitC
  rw [show 48 + (c.toNat - 48) = c.toNat by omega]
  exact UInt8.toNat_inj.1 (by rw [UInt8.toNat_ofNat']; have := c.toNat_lt; omega)
theorem tx_zero (v : Nat) (h : v ≠ 0) : tx v 0 = Lib.decDigits v := by
  unfold tx
  rw [List.drop_zero, ← dgs_pos h]
  unfold dgs
  rw [List.map_reverse, List.map_map, ← List.map_reverse, List.reverse_reverse]
  exact (List.map_congr_left (g := id) (fun c hc => digitC_dig c (allDig_decDigits v c hc))).trans (List.map_id _)
theorem digit_byte (d : Nat) (h : d < 10) : [Value.int .u8 (48 + (d : Int))] = Lib.byteCells [digitC d] := by
  simp only [Lib.byteCells, List.map_cons, List.map_nil]
  unfold digitC
  rw [toNat_dig _ h]; rfl
def sgnL (b : Bool) : List UInt8 := if b = true then [45] else []
def madeZ (b : Bool) (v : Nat) : Int := if b = true then -(v : Int) else v
theorem madeZ_text (b : Bool) (v : Nat) (h : v ≠ 0) : Lib.itoa (madeZ b v) = sgnL b ++ Lib.decDigits v := by
  unfold madeZ sgnL
  cases b
  · simp only [Bool.false_eq_true, if_false, List.nil_append]
    rw [itoa_nonneg (by omega), Int.natAbs_natCast]
  · simp only [if_true]
    rw [itoa_neg (by omega), Int.natAbs_neg, Int.natAbs_natCast]; rfl
theorem madeZ_zero (b : Bool) : madeZ b 0 = 0 := by cases b <;> rfl
theorem made_zero (l : List Nat) (v : Value) (b : Bool) (w : World) (hv : DV w v l) (hs : Dg l) (hb : l.length ≤ 1000000000) (h0 : dv l = 0) :
    Calls Tryz.prog 119 #[v, .bool b] w fun e w' => e = .returned (.string (str (Lib.itoa 0))) ∧ Below w.heap.size w w' := by
  have C := cut_any l v w hv hs (by omega)
  rw [h0, nl_zero] at C
  have hz : str (Lib.itoa 0) = ⟨#[48]⟩ := by rw [itoa_nonneg (by omega)]; show str (Lib.decDigits 0) = _; rw [dec0']; rfl
  rw [hz]
  obtain ⟨ao, c, rfl, -⟩ := hv
  generalize l.length = n at *
  have KC := Lib.hid C; clear C hs h0 hz
  go_enter Tryz.func119, Tryz.ntmps119
  go_wp2_with (go_at_call 117; refine KC.out.mono ?_; rintro e w1 ⟨v1, rfl, hv1, h⟩; subst h; refine Hid.out ?_)
  obtain ⟨ar, cr, rfl, -⟩ := hv1
  refine Lib.hid ?_
  have hnil : ([] : List Nat).length = 0 := rfl
  rw [hnil]
  go_wp2
  go_ret
  exact ⟨rfl, Below.refl _ _⟩
set_option maxHeartbeats 4000000 in
theorem made_pos (l : List Nat) (v : Value) (b : Bool) (w : World) (hv : DV w v l) (hs : Dg l) (hb : l.length ≤ 1000000000) (h0 : dv l ≠ 0) :
    Calls Tryz.prog 119 #[v, .bool b] w fun e w' => e = .returned (.string (str (Lib.itoa (madeZ b (dv l))))) ∧ Below w.heap.size w w' := by
  obtain ⟨i0, hi, hz0, hz1, hz2⟩ := info_parts infoU8
  have C := cut_any l v w hv hs (by omega)
  have hlen : (nl (dv l)).length ≤ 1000000000 := by rw [← dtake_keep hs, List.length_take]; omega
  have htext := madeZ_text b _ h0
  rw [htext, ← tx_zero _ h0]
  clear htext hs
  obtain ⟨ao, c, rfl, -⟩ := hv
  generalize l.length = n at *
  generalize hx : dv l = x at *
  have hne : nl x ≠ [] := fun e => h0 (nl_nil_iff.1 e)
  have hpos : 0 < (nl x).length := List.length_pos_iff.2 hne
  have hstep : ∀ j, j < (nl x).length → tx x j = tx x (j + 1) ++ [digitC ((nl x).getD j 0)] := fun j h => tx_step x j h
  have hdg : ∀ j, (nl x).getD j 0 < 10 := fun j => (nl_small x).getD j
  have hend := tx_end x
  have htl : ∀ j, (tx x j).length = (nl x).length - j := fun j => tx_length x j
  obtain ⟨k, hk⟩ : ∃ k, (nl x).length = k + 1 := ⟨(nl x).length - 1, by omega⟩
  have KC := Lib.hid C; have HST := Lib.hid hstep; have HDG := Lib.hid hdg; have HEND := Lib.hid hend; have HTL := Lib.hid htl; have HNE := Lib.hid hne
  clear C hstep hdg hend htl h0 hne hpos hb hx
  have hk1 : k + 1 ≤ 1000000000 := by rw [← hk]; exact hlen
  clear hlen
  have HK := Lib.hid hk; clear hk
  have t0 : (((k : Int) + 1) == 0) = false := by rw [beq_eq_false_iff_ne]; omega
  cases b
  · go_enter Tryz.func119, Tryz.ntmps119
    go_wp2_with (go_at_call 117; refine KC.out.mono ?_; rintro e w1 ⟨v1, rfl, hv1, h⟩; subst h; refine Hid.out ?_)
    obtain ⟨ar, cr, rfl, hr⟩ := hv1
    obtain ⟨bx, ox, rfl⟩ := hr.addr HNE.out
    have hbx := hr.block HNE.out
    have hcr := hr.1; have hcr2 := hr.2.1
    have hget : ∀ j, j < (nl x).length → w1.cell? ⟨bx, ox + j, none⟩ = some (.int .i64 ((nl x).getD j 0 : Nat)) := fun j h => hr.get j h
    have HGET := Lib.hid hget
    clear hr hget
    rw [HK.out] at hcr ⊢
    refine Lib.hid ?_
    obtain ⟨w0, hw0⟩ : ∃ w0 : World, w0 = w1 := ⟨_, rfl⟩
    have hbw0 : Below w1.heap.size w1 w1 := Below.refl _ _
    have hO : w1.ownsRow w1.heap.size 5 1 (.slice none 0 0) ((sgnL false).length + ((nl x).length - (k + 1))) (Lib.byteCells (sgnL false ++ tx x (k + 1))) := by
      rw [← HK.out, HEND.out, Nat.sub_self]; exact World.ownsRow_nil _ _ _ _
    have HO := Lib.hid hO; clear hO hw0
    obtain ⟨q, hq⟩ : ∃ q, q = (sgnL false).length := ⟨_, rfl⟩
    have hq1 : q ≤ 1 := by rw [hq]; decide
    rw [← hq] at HO
    have HQ := Lib.hid hq; clear hq
    go_wp2_with fail
    go_loopw [5, 6] (fun v iv wr => ∃ j : Nat, j ≤ k + 1 ∧ iv = .int .i64 ((j : Int) - 1) ∧ wr.ownsRow w1.heap.size 5 1 v (q + ((nl x).length - j)) (Lib.byteCells (sgnL false ++ tx x j)) ∧ Below w1.heap.size w1 wr) (fun _ iv _ => (intOf iv + 1).toNat)
    case atStart => exact ⟨k + 1, Nat.le_refl _, by go_num, HO.out, hbw0⟩
    case round =>
      obtain ⟨j, hj, rfl, hown, hbw⟩ := hrel
      rcases Nat.eq_zero_or_pos j with rfl | hj0
      · have hne : q + ((nl x).length - 0) ≠ 0 := by rw [HK.out]; omega
        obtain ⟨L, hL⟩ : ∃ L, L = sgnL false ++ tx x 0 := ⟨_, rfl⟩
        have hlen : q + ((nl x).length - 0) = L.length := by
          rw [hL, List.length_append, HTL.out, HQ.out]
        rw [hlen] at hown hne
        rw [← hL] at hown
        have HB := Lib.hid hbw
        rcases hown.2 with ⟨-, h0⟩ | ⟨g, cap, cur, rfl, -, -, -, -, -, -⟩
        · exact absurd h0 hne
        have hcv := run_convert_bytes_back (P := Tryz.prog) wr 170 41 5 ⟨g, 0, none⟩ cap L Tryz.underlying170 Tryz.underlying5 Tryz.underlying41 (fun j hj => hown.cells (g := g) rfl j _ (by simp [Lib.byteCells, hj]))
        have HL := Lib.hid hL
        clear hown hlen hne hL hbw
        go_wp2
        go_ret
        exact ⟨by rw [← HL.out]; rfl, HB.out⟩
      · obtain ⟨i, rfl⟩ : ∃ i, j = i + 1 := ⟨j - 1, by omega⟩
        have hik : i < k + 1 := by omega
        have cy := (hbw.cell (p := ⟨bx, ox + i, none⟩) hbx).trans (HGET.out i (by rw [HK.out]; exact hik))
        have hd9 := HDG.out i
        have hst := HST.out i (by rw [HK.out]; exact hik)
        generalize (nl x).getD i 0 = d at *
        have HS := Lib.hid hst; clear hst
        have hsz : q + ((nl x).length - (i + 1)) ≤ 1000000002 := by rw [HK.out]; omega
        have hsz2 : q + ((nl x).length - i) = q + ((nl x).length - (i + 1)) + 1 := by rw [HK.out]; omega
        generalize q + ((nl x).length - (i + 1)) = sz at *
        have HS2 := Lib.hid hsz2; clear hsz2
        go_wp2_with (at_builtin; refine wpList_append_own _ rfl _ _ 170 rfl w1.heap.size 5 i0 (.int .u8 0) 1 1 Tryz.underlying170 hi hz0 hz1 hz2 rfl (by decide) _ _ _ rfl (hown.alloc _) ⟨wr.heap.size, 0, none⟩ 1 1 [.int .u8 (48 + (d : Int))] rfl rfl ?c1 ?c2 ?c3 ?c4 ?c5 ?_)
        case c1 => intro j u hj; match j, hj with | 0, hj => (simp at hj; subst hj; simp [Addr.add])
        case c2 => intro u hu; simp at hu; subst hu; rfl
        case c3 => unfold maxLen; omega
        case c4 => omega
        case c5 => have := hbw.size; simp; omega
        intro v' w2 hown' hgrow _
        go_wp2
        go_roundw
        case rel =>
          refine ⟨i, by omega, by go_num, ?_, ?_⟩
          · rw [HS2.out, HS.out, ← List.append_assoc, byteCells_append, ← digit_byte d hd9]; exact hown'
          · exact hbw.trans (((Below.refl _ _).alloc (by have := hbw.size; omega) _).grown hgrow (by have := hbw.size; simp; omega) (fun k hk => ((hown.lt k hk)).1))
        case measure => simp only [intOf]; omega
  · go_enter Tryz.func119, Tryz.ntmps119
    go_wp2_with (go_at_call 117; refine KC.out.mono ?_; rintro e w1 ⟨v1, rfl, hv1, h⟩; subst h; refine Hid.out ?_)
    obtain ⟨ar, cr, rfl, hr⟩ := hv1
    obtain ⟨bx, ox, rfl⟩ := hr.addr HNE.out
    have hbx := hr.block HNE.out
    have hcr := hr.1; have hcr2 := hr.2.1
    have hget : ∀ j, j < (nl x).length → w1.cell? ⟨bx, ox + j, none⟩ = some (.int .i64 ((nl x).getD j 0 : Nat)) := fun j h => hr.get j h
    have HGET := Lib.hid hget
    clear hr hget
    rw [HK.out] at hcr ⊢
    refine Lib.hid ?_
    go_wp2_with (at_builtin; refine wpList_append_own _ rfl _ _ 170 rfl w1.heap.size 5 i0 (.int .u8 0) 1 1 Tryz.underlying170 hi hz0 hz1 hz2 rfl (by decide) _ _ _ rfl (World.ownsRow_nil _ _ _ _) ⟨w1.heap.size, 0, none⟩ 1 1 [.int .u8 45] rfl rfl ?c1 ?c2 ?c3 ?c4 ?c5 ?_)
    case c1 => intro j u hj; match j, hj with | 0, hj => (simp at hj; subst hj; simp [Addr.add])
    case c2 => intro u hu; simp at hu; subst hu; rfl
    case c3 => decide
    case c4 => decide
    case c5 => simp
    intro v0 w0 hown0 hgrow0 _
    have hbw0 : Below w1.heap.size w1 w0 := ((Below.refl _ _).alloc (Nat.le_refl _) _).grown hgrow0 (by simp) (fun k hk => ((World.ownsRow_nil w1 w1.heap.size 5 1).lt k hk).1)
    have hO : w0.ownsRow w1.heap.size 5 1 v0 ((sgnL true).length + ((nl x).length - (k + 1))) (Lib.byteCells (sgnL true ++ tx x (k + 1))) := by
      rw [← HK.out, HEND.out, Nat.sub_self]; exact hown0
    have HO := Lib.hid hO; clear hO hown0 hgrow0
    obtain ⟨q, hq⟩ : ∃ q, q = (sgnL true).length := ⟨_, rfl⟩
    have hq1 : q ≤ 1 := by rw [hq]; decide
    rw [← hq] at HO
    have HQ := Lib.hid hq; clear hq
    go_wp2_with fail
    go_loopw [5, 6] (fun v iv wr => ∃ j : Nat, j ≤ k + 1 ∧ iv = .int .i64 ((j : Int) - 1) ∧ wr.ownsRow w1.heap.size 5 1 v (q + ((nl x).length - j)) (Lib.byteCells (sgnL true ++ tx x j)) ∧ Below w1.heap.size w1 wr) (fun _ iv _ => (intOf iv + 1).toNat)
    case atStart => exact ⟨k + 1, Nat.le_refl _, by go_num, HO.out, hbw0⟩
    case round =>
      obtain ⟨j, hj, rfl, hown, hbw⟩ := hrel
      rcases Nat.eq_zero_or_pos j with rfl | hj0
      · have hne : q + ((nl x).length - 0) ≠ 0 := by rw [HK.out]; omega
        obtain ⟨L, hL⟩ : ∃ L, L = sgnL true ++ tx x 0 := ⟨_, rfl⟩
        have hlen : q + ((nl x).length - 0) = L.length := by
          rw [hL, List.length_append, HTL.out, HQ.out]
        rw [hlen] at hown hne
        rw [← hL] at hown
        have HB := Lib.hid hbw
        rcases hown.2 with ⟨-, h0⟩ | ⟨g, cap, cur, rfl, -, -, -, -, -, -⟩
        · exact absurd h0 hne
        have hcv := run_convert_bytes_back (P := Tryz.prog) wr 170 41 5 ⟨g, 0, none⟩ cap L Tryz.underlying170 Tryz.underlying5 Tryz.underlying41 (fun j hj => hown.cells (g := g) rfl j _ (by simp [Lib.byteCells, hj]))
        have HL := Lib.hid hL
        clear hown hlen hne hL hbw
        go_wp2
        go_ret
        exact ⟨by rw [← HL.out]; rfl, HB.out⟩
      · obtain ⟨i, rfl⟩ : ∃ i, j = i + 1 := ⟨j - 1, by omega⟩
        have hik : i < k + 1 := by omega
        have cy := (hbw.cell (p := ⟨bx, ox + i, none⟩) hbx).trans (HGET.out i (by rw [HK.out]; exact hik))
        have hd9 := HDG.out i
        have hst := HST.out i (by rw [HK.out]; exact hik)
        generalize (nl x).getD i 0 = d at *
        have HS := Lib.hid hst; clear hst
        have hsz : q + ((nl x).length - (i + 1)) ≤ 1000000002 := by rw [HK.out]; omega
        have hsz2 : q + ((nl x).length - i) = q + ((nl x).length - (i + 1)) + 1 := by rw [HK.out]; omega
        generalize q + ((nl x).length - (i + 1)) = sz at *
        have HS2 := Lib.hid hsz2; clear hsz2
        go_wp2_with (at_builtin; refine wpList_append_own _ rfl _ _ 170 rfl w1.heap.size 5 i0 (.int .u8 0) 1 1 Tryz.underlying170 hi hz0 hz1 hz2 rfl (by decide) _ _ _ rfl (hown.alloc _) ⟨wr.heap.size, 0, none⟩ 1 1 [.int .u8 (48 + (d : Int))] rfl rfl ?c1 ?c2 ?c3 ?c4 ?c5 ?_)
        case c1 => intro j u hj; match j, hj with | 0, hj => (simp at hj; subst hj; simp [Addr.add])
        case c2 => intro u hu; simp at hu; subst hu; rfl
        case c3 => unfold maxLen; omega
        case c4 => omega
        case c5 => have := hbw.size; simp; omega
        intro v' w2 hown' hgrow _
        go_wp2
        go_roundw
        case rel =>
          refine ⟨i, by omega, by go_num, ?_, ?_⟩
          · rw [HS2.out, HS.out, ← List.append_assoc, byteCells_append, ← digit_byte d hd9]; exact hown'
          · exact hbw.trans (((Below.refl _ _).alloc (by have := hbw.size; omega) _).grown hgrow (by have := hbw.size; simp; omega) (fun k hk => ((hown.lt k hk)).1))
        case measure => simp only [intOf]; omega
theorem made_any (l : List Nat) (v : Value) (b : Bool) (w : World) (hv : DV w v l) (hs : Dg l) (hb : l.length ≤ 1000000000) :
    Calls Tryz.prog 119 #[v, .bool b] w fun e w' => e = .returned (.string (str (Lib.itoa (madeZ b (dv l))))) ∧ Below w.heap.size w w' := by
  by_cases h0 : dv l = 0
  · rw [h0, madeZ_zero]; exact made_zero l v b w hv hs hb h0
  · exact made_pos l v b w hv hs hb h0
end Go.Proofs.YtjobmkdaaionlaaGreatDoor
