import Derived.Test.YtjobmkdaaionlaaGreatDoorCut20

set_option linter.unusedVariables false
/-
  The reference: cut and minus, with what is known of the result's memory.
-/
namespace Go.Proofs.YtjobmkdaaionlaaGreatDoor
open Go Go.Proofs Go.RowKit
def DVF (base : Nat) (w : World) (v : Value) (l : List Nat) : Prop := ∃ b o c, v = .slice (some ⟨b, o, none⟩) l.length c ∧ DAt w (some ⟨b, o, none⟩) c l ∧ base ≤ b
def DRetF (l : List Nat) (w : World) (e : Ending) (w' : World) : Prop := ∃ v, e = .returned v ∧ DVF w.heap.size w' v l ∧ Below w.heap.size w w'
theorem DVF.dv {B : Nat} {w : World} {v : Value} {l : List Nat} (h : DVF B w v l) : DV w v l := by
  obtain ⟨b, o, c, he, hr, -⟩ := h
  exact ⟨_, c, he, hr⟩
theorem DVF.mono {B : Nat} {w w' : World} {v : Value} {l : List Nat} (h : DVF B w v l) (hb : Below w.heap.size w w') : DVF B w' v l := by
  obtain ⟨b, o, c, he, hr, hf⟩ := h
  exact ⟨b, o, c, he, hr.mono hb, hf⟩
theorem DVF.le {B B' : Nat} {w : World} {v : Value} {l : List Nat} (h : DVF B w v l) (hb : B' ≤ B) : DVF B' w v l := by
  obtain ⟨b, o, c, he, hr, hf⟩ := h
  exact ⟨b, o, c, he, hr, Nat.le_trans hb hf⟩
theorem DVF.set {B : Nat} {w : World} {v : Value} {l : List Nat} (h : DVF B w v l) {g : Nat} (hg : g < B) (k : Nat) (u : Value) : DVF B (w.setCell ⟨g, k, none⟩ u) v l := by
  obtain ⟨b, o, c, he, ⟨h1, h2, h3⟩, hf⟩ := h
  refine ⟨b, o, c, he, ⟨h1, h2, ?_⟩, hf⟩
  rcases h3 with h3 | ⟨b', off, hb, hlt, hc⟩
  · exact .inl h3
  · injection hb with hb
    injection hb with e1 e2 _
    subst e1; subst e2
    refine .inr ⟨b, o, rfl, by simpa [World.setCell] using hlt, fun j hj => ?_⟩
    rw [World.cell?_setCell_other (h := by simp <;> omega)]
    exact hc j hj
theorem dvf_of_owns {w : World} {base : Nat} {v : Value} {n : Nat} {l : List Nat} (h : w.ownsRow base 3 1 v n (dcellsOf l)) (hne : v ≠ .slice none 0 0) : DVF base w v l := by
  have h' := h
  obtain ⟨ao, c, he, hr⟩ := drow_of_owns h
  rcases h'.2 with ⟨h2, -⟩ | ⟨g, cap, cur, hv, hb, -⟩
  · exact absurd h2 hne
  · rw [he] at hv
    injection hv with e1 e2 e3
    subst e1; subst e3
    exact ⟨g, 0, _, he, hr, hb⟩
theorem owns_ne {w : World} {base : Nat} {v : Value} {n : Nat} {xs : List Value} (h : w.ownsRow base 3 1 v n xs) (hn : 0 < n) : v ≠ .slice none 0 0 := by
  intro e
  rcases h.2 with ⟨-, h0⟩ | ⟨g, cap, cur, hv, -⟩
  · omega
  · rw [e] at hv; injection hv with e1 _ _; cases e1
set_option maxHeartbeats 1000000 in
theorem cut_at (l : List Nat) (ao : Option Addr) (c : Nat) (w : World) (hr : DAt w ao c l) (hs : Dg l) (hb : l.length ≤ 1000000000000) :
    Calls Tryz.prog 117 #[.slice ao l.length c] w fun e w' => e = .returned (.slice ao (keep l) c) ∧ w' = w := by
  have hkl := keep_le l
  have hres : ∀ r, r = keep l → keep l = r := fun r hr' => hr'.symm
  have h1 := hr.1; have h2 := hr.2.1
  have hzero : keep (l.take 0) = keep l → keep l = 0 := fun h => by rw [← h]; rfl
  have hk0 : keep (l.take l.length) = keep l := by rw [List.take_length]
  by_cases hne : l = []
  · subst hne
    clear hres hkl h1 hzero hk0 hr hs hb
    rw [show keep [] = 0 from rfl]
    have hnil : ([] : List Nat).length = 0 := rfl
    rw [hnil]
    go_enter Tryz.func117, Tryz.ntmps117
    go_wp2_with fail
    go_rounds 1
    go_ret
    exact ⟨rfl, rfl⟩
  · obtain ⟨d, hd, hdb, hxc⟩ := hr.open hs
    obtain ⟨b, off, rfl, hb', hxc⟩ := hxc.resolve_left hne
    have hstep : ∀ k, k < l.length → keep (l.take (k + 1)) = keep l → d k = 0 → keep (l.take k) = keep l := fun k hk h h0 => keep_take hk (by have := hd k hk; omega) h
    have hlast : ∀ k, k < l.length → keep (l.take (k + 1)) = keep l → d k ≠ 0 → keep l = k + 1 := fun k hk h h0 => keep_last hk (by have := hd k hk; omega) h
    generalize hK : (fun k => keep (l.take k) = keep l) = K
    have hK' : ∀ k, (keep (l.take k) = keep l) = K k := fun k => congrFun hK k
    simp only [hK'] at hk0 hstep hlast hzero
    clear hK hK' hd hr hs hne
    generalize keep l = r at *
    generalize l.length = n at *
    have HS := Lib.hid hstep; have HL := Lib.hid hlast; have HZ := Lib.hid hzero; have HK := Lib.hid hk0; have HX := Lib.hid hxc; have HRES := Lib.hid hres
    clear hstep hlast hzero hk0 hxc hdb hres
    go_enter Tryz.func117, Tryz.ntmps117
    go_wp2_with fail
    go_loop [3] (fun v => ∃ k : Nat, k ≤ n ∧ v = .int .i64 k ∧ K k) (fun v => (intOf v).toNat)
    case atStart => exact ⟨n, Nat.le_refl _, rfl, HK.out⟩
    case round =>
      obtain ⟨k, hk, rfl, hKk⟩ := hrel
      have HKk := Lib.hid hKk; clear hKk
      rcases Nat.eq_zero_or_pos k with rfl | hk1
      · have hr0 : r = 0 := HZ.out HKk.out
        subst hr0
        clear HRES
        go_wp2
        go_ret
        exact ⟨rfl, rfl⟩
      · obtain ⟨j, rfl⟩ : ∃ j, k = j + 1 := ⟨k - 1, by omega⟩
        have c1 : w.cell? ⟨b, off + j, none⟩ = some (.int .i64 (d j)) := HX.out j (by omega)
        by_cases h0 : d j = 0
        · have hz : (d j == 0) = true := by simp [h0]
          have H0 := Lib.hid h0; clear h0
          go_wp2
          go_round
          case rel => exact ⟨j, by omega, by go_num, HS.out j (by omega) HKk.out H0.out⟩
          case measure => simp [intOf]
        · have hz : (d j == 0) = false := by simp [h0]
          have hr1 : r = j + 1 := HL.out j (by omega) HKk.out h0
          subst hr1
          clear HRES h0
          go_wp2
          go_ret
          exact ⟨rfl, rfl⟩
theorem keep_nl {l : List Nat} (hs : Dg l) : keep l = (nl (dv l)).length := by
  have := keep_le l
  rw [← dtake_keep hs]; simp; omega
theorem cut_fresh (l : List Nat) (v : Value) (w : World) (B : Nat) (hv : DVF B w v l) (hs : Dg l) (hb : l.length ≤ 1000000000000) :
    Calls Tryz.prog 117 #[v] w fun e w' => ∃ v', e = .returned v' ∧ DVF B w v' (nl (dv l)) ∧ w' = w := by
  obtain ⟨b, o, c, rfl, hr, hf⟩ := hv
  refine (cut_at l _ c w hr hs hb).mono fun e w' h => ⟨_, h.1, ⟨b, o, c, by rw [keep_nl hs], ?_, hf⟩, h.2⟩
  rw [← dtake_keep hs]; exact hr.take _ (keep_le l)
set_option maxHeartbeats 4000000 in
theorem refMinus_fresh (X Y : List Nat) (vx vy : Value) (w : World) (hx : DV w vx X) (hy : DV w vy Y) (hX : Dg X) (hY : Dg Y) (hlx : X.length ≤ 1000000000) (hle : dv Y ≤ dv X) (hX0 : X ≠ []) :
    Calls Tryz.prog 144 #[vx, vy] w (DRetF (nl (dv X - dv Y)) w) := by
  obtain ⟨i0, hi, hz0, hz1, hz2⟩ := info_parts dinfoU32
  have A2 : ∀ i : Nat, i ≤ 9223372036854775807 → ∀ W, Below w.heap.size w W → Calls Tryz.prog 165 #[vy, .int .i64 i] W fun e w' => e = .returned (.int .i64 (Y.getD i 0 : Nat)) ∧ w' = W := fun i hi W hW => at_any Y vy i W (hy.mono hW) hi
  have hdX := fun i => hX.getD i
  have hdY := fun i => hY.getD i
  have hst : ∀ (s : List Nat) (i c : Nat), MinusInv X Y s i c → (X.getD i 0 < Y.getD i 0 + c → MinusInv X Y (s ++ [X.getD i 0 + 10 - (Y.getD i 0 + c)]) (i + 1) 1) ∧ (¬ X.getD i 0 < Y.getD i 0 + c → MinusInv X Y (s ++ [X.getD i 0 - (Y.getD i 0 + c)]) (i + 1) 0) := fun s i c h => h.step hX hY
  have hdn : ∀ (s : List Nat) (c : Nat), MinusInv X Y s X.length c → dv s = dv X - dv Y := fun s c h => h.done hX hle
  have hs0 := MinusInv.start X Y
  obtain ⟨ao, cx, rfl, hx⟩ := hx
  obtain ⟨ap, cy, rfl, -⟩ := hy
  have HXR : ∀ i, i < X.length → ∃ bx ox, ao = some ⟨bx, ox, none⟩ ∧ bx < w.heap.size ∧ w.cell? ⟨bx, ox + i, none⟩ = some (.int .i64 (X.getD i 0 : Nat)) := fun i hi => by
    have hne : X ≠ [] := fun e => by rw [e] at hi; simp at hi
    obtain ⟨bx, ox, rfl⟩ := hx.addr hne
    exact ⟨bx, ox, rfl, hx.block hne, hx.get i hi⟩
  have hcx := hx.1; have hcx2 := hx.2.1
  have CC : ∀ (S : List Nat) (v : Value) (W : World) (B : Nat), DVF B W v S → Dg S → S.length ≤ 1000000000000 → Calls Tryz.prog 117 #[v] W fun e w' => ∃ v', e = .returned v' ∧ DVF B W v' (nl (dv S)) ∧ w' = W := fun S v W B h1 h2 h3 => cut_fresh S v W B h1 h2 h3
  have hpos : 0 < X.length := List.length_pos_iff.2 hX0
  generalize X.length = n at *
  generalize Y.length = m at *
  have KA2 := Lib.hid A2; have KX := Lib.hid hdX; have KY := Lib.hid hdY; have KST := Lib.hid hst; have KDN := Lib.hid hdn; have KS0 := Lib.hid hs0; have KC := Lib.hid CC; have KR := Lib.hid HXR
  clear A2 hdX hdY hst hdn hs0 CC hX hY hx HXR hle hX0
  go_enter Tryz.func144, Tryz.ntmps144
  go_wp2_with fail
  go_loopw [5, 6, 7] (fun v cv iv wr => ∃ (i c : Nat) (S : List Nat), i ≤ n ∧ iv = .int .i64 i ∧ cv = .int .i64 c ∧ MinusInv X Y S i c ∧ wr.ownsRow w.heap.size 3 1 v S.length (dcellsOf S) ∧ Below w.heap.size w wr) (fun _ _ iv _ => n - (intOf iv).toNat)
  case atStart => exact ⟨0, 0, [], by omega, rfl, rfl, KS0.out, World.ownsRow_nil _ _ _ _, Below.refl _ _⟩
  case round =>
    obtain ⟨i, c, S, hi1, rfl, rfl, hinv, hown, hbw⟩ := hrel
    have hc := hinv.carry
    have hln := hinv.len
    have HI := Lib.hid hinv; have HL := Lib.hid hln; clear hinv hln
    by_cases hlt : i < n
    · have hx9 := KX.out i; have hy9 := KY.out i
      have a2 := KA2.out i (by omega)
      have hstp := KST.out S i c HI.out
      have hSl : S.length ≤ 1000000001 := by rw [HL.out]; omega
      obtain ⟨bx, ox, rfl, hbx, hcell⟩ := KR.out i hlt
      have cx1 : wr.cell? ⟨bx, ox + i, none⟩ = some (.int .i64 (X.getD i 0 : Nat)) := (hbw.cell (p := ⟨bx, ox + i, none⟩) hbx).trans hcell
      generalize X.getD i 0 = xd at *
      generalize Y.getD i 0 = yd at *
      have A2 := Lib.hid a2; have HST := Lib.hid hstp; have HBW := Lib.hid hbw; have HOW := Lib.hid hown
      clear a2 hstp hcell hown
      by_cases hneg : xd < yd + c
      · have t1 : decide ((xd : Int) - (yd : Int) - (c : Int) < 0) = true := decide_eq_true (by omega)
        have h1 := HST.out.1 hneg
        have H1 := Lib.hid h1; clear h1 HST
        obtain ⟨d, hd⟩ : ∃ d : Nat, d = xd + 10 - (yd + c) := ⟨_, rfl⟩
        rw [← hd] at H1
        have hdi : (xd : Int) - (yd : Int) - (c : Int) + 10 = (d : Int) := by omega
        have hd9 : d < 10 := by omega
        have HDI := Lib.hid hdi
        clear hd hdi
        go_wp2
        go_quiet ((go_at_call 165; exact Calls.quiet_of_same (A2.out _ (HBW.out.trans (below_drewN (Below.refl _ _) _)))))
        have hbw1 := hbw.trans (below_drewN (Below.refl _ _) nq)
        have hown := ownsRow_drewN HOW.out nq
        generalize wr.drewN nq = W1 at *
        go_wp2_with (at_builtin; refine wpList_append_own _ rfl _ _ 64 rfl w.heap.size 3 i0 (.int .i64 0) 1 8 Tryz.underlying64 hi hz0 hz1 hz2 rfl (by decide) _ _ _ rfl (hown.alloc _) ⟨W1.heap.size, 0, none⟩ 1 1 [.int .i64 ((xd : Int) - (yd : Int) - (c : Int) + 10)] rfl rfl ?c1 ?c2 ?c3 ?c4 ?c5 ?_)
        case c1 => intro j u hj; match j, hj with | 0, hj => (simp at hj; subst hj; simp [Addr.add])
        case c2 => intro u hu; simp at hu; subst hu; rfl
        case c3 => unfold maxLen; omega
        case c4 => omega
        case c5 => have := hbw1.size; simp; omega
        intro v' w2 hown' hgrow _
        go_wp2
        go_roundw
        case rel =>
          refine ⟨i + 1, 1, S ++ [d], by omega, by go_num, rfl, H1.out, ?_, ?_⟩
          · rw [HDI.out] at hown'
            rw [dcellsOf_append, List.length_append]; exact hown'
          · exact hbw1.trans (((Below.refl _ _).alloc (by have := hbw1.size; omega) _).grown hgrow (by have := hbw1.size; simp; omega) (fun k hk => ((hown.lt k hk)).1))
        case measure => simp [intOf]; omega
      · have t1 : decide ((xd : Int) - (yd : Int) - (c : Int) < 0) = false := decide_eq_false (by omega)
        have h1 := HST.out.2 hneg
        have H1 := Lib.hid h1; clear h1 HST
        obtain ⟨d, hd⟩ : ∃ d : Nat, d = xd - (yd + c) := ⟨_, rfl⟩
        rw [← hd] at H1
        have hdi : (xd : Int) - (yd : Int) - (c : Int) = (d : Int) := by omega
        have hd9 : d < 10 := by omega
        have HDI := Lib.hid hdi
        clear hd hdi
        go_wp2
        go_quiet ((go_at_call 165; exact Calls.quiet_of_same (A2.out _ (HBW.out.trans (below_drewN (Below.refl _ _) _)))))
        have hbw1 := hbw.trans (below_drewN (Below.refl _ _) nq)
        have hown := ownsRow_drewN HOW.out nq
        generalize wr.drewN nq = W1 at *
        go_wp2_with (at_builtin; refine wpList_append_own _ rfl _ _ 64 rfl w.heap.size 3 i0 (.int .i64 0) 1 8 Tryz.underlying64 hi hz0 hz1 hz2 rfl (by decide) _ _ _ rfl (hown.alloc _) ⟨W1.heap.size, 0, none⟩ 1 1 [.int .i64 ((xd : Int) - (yd : Int) - (c : Int))] rfl rfl ?c1 ?c2 ?c3 ?c4 ?c5 ?_)
        case c1 => intro j u hj; match j, hj with | 0, hj => (simp at hj; subst hj; simp [Addr.add])
        case c2 => intro u hu; simp at hu; subst hu; rfl
        case c3 => unfold maxLen; omega
        case c4 => omega
        case c5 => have := hbw1.size; simp; omega
        intro v' w2 hown' hgrow _
        go_wp2
        go_roundw
        case rel =>
          refine ⟨i + 1, 0, S ++ [d], by omega, by go_num, rfl, H1.out, ?_, ?_⟩
          · rw [HDI.out] at hown'
            rw [dcellsOf_append, List.length_append]; exact hown'
          · exact hbw1.trans (((Below.refl _ _).alloc (by have := hbw1.size; omega) _).grown hgrow (by have := hbw1.size; simp; omega) (fun k hk => ((hown.lt k hk)).1))
        case measure => simp [intOf]; omega
    · have hin : i = n := by omega
      subst hin
      have hd := KDN.out S c HI.out
      have hg := HI.out.dg
      have hc0 := KC.out S _ _ _ (dvf_of_owns hown (owns_ne hown (by rw [HL.out]; exact hpos))) hg (by rw [HL.out]; omega)
      obtain ⟨ar, cr, rfl, hr⟩ := drow_of_owns hown
      rw [hd] at hc0
      have K := Lib.hid hc0; have HB := Lib.hid hbw
      clear hd hg hr hc0 hown hbw
      go_wp2_with (go_at_call 117; refine K.out.mono ?_; rintro e w1 ⟨v1, rfl, hv1, h⟩; subst h; refine Hid.out ?_)
      refine Lib.hid ?_
      go_wp2
      go_ret
      exact ⟨_, rfl, hv1, HB.out⟩
end Go.Proofs.YtjobmkdaaionlaaGreatDoor
