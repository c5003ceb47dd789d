import Derived.Test.YtjjkabgbcflipaaCu24
import Derived.Test.YtjjkabgbcflipaaCu12
set_option linter.unusedSimpArgs false
set_option linter.unusedVariables false
namespace Go.Proofs.Ytjjkabgbcflipaa
open Go Go.Proofs Go.RowKit Go.Shelf GM

attribute [local go_sem] Oper.semAt_some

/-- A row of numbers that can be read, at its block's begin. -/
def RI (lo : Nat) (W : World) (v : Value) (l : List Int) : Prop := ∃ g c, v = .slice (some ⟨g, 0, none⟩) l.length c ∧ lo ≤ g ∧ g < W.heap.size ∧ ∀ k, k < l.length → W.cell? ⟨g, k, none⟩ = some (.int .i64 (l.getD k 0))
theorem RI.below {lo : Nat} {W W' : World} {v : Value} {l : List Int} (h : RI lo W v l) (hb : Below W.heap.size W W') : RI lo W' v l := by
  obtain ⟨g, c, rfl, h1, h2, h3⟩ := h
  exact ⟨g, c, rfl, h1, Nat.lt_of_lt_of_le h2 hb.size, fun k hk => (hb.cell (p := ⟨g, k, none⟩) h2).trans (h3 k hk)⟩
theorem RI.of_own {lo : Nat} {W : World} {v : Value} {l : List Int} (h : ownI lo W v l) (hn : l ≠ []) : RI lo W v l := by
  rcases id h.2 with ⟨e, h0⟩ | ⟨g, cap, cur, e, hlo, hg, -⟩
  · exact absurd (List.length_eq_zero_iff.1 h0) hn
  · subst e
    exact ⟨g, cap, rfl, hlo, (Array.getElem?_eq_some_iff.1 hg).1, fun k hk => h.cells k hk⟩
theorem RI.of_nm {lo g P : Nat} {W : World} {f : Nat → Int} {l : List Int} (h : NmAt W g P f) (hg : lo ≤ g) (hl : l.length = P) (hf : ∀ k, k < P → f k = l.getD k 0) : RI lo W (.slice (some ⟨g, 0, none⟩) P P) l :=
  ⟨g, P, by rw [hl], hg, h.lt, fun k hk => by rw [h.nc k (by omega), hf k (by omega)]⟩
theorem eq_ri {lo : Nat} {W : World} {v : Value} {l : List Int} (h : RI lo W v l) (b c n : Nat) (hn : n = l.length) (hl : l.length ≤ 100000) (hc : ∀ k, k < l.length → W.cell? ⟨b, k, none⟩ = some (.int .i64 (l.getD k 0))) :
    Calls Try.prog 27 #[v, .slice (some ⟨b, 0, none⟩) n c] W fun e w' => e = .returned (.bool true) ∧ Below W.heap.size W w' := by
  obtain ⟨g, c0, rfl, -, -, h3⟩ := h
  subst hn
  refine (Try.slices_Equal_int g 0 l.length c0 b 0 l.length c l l W (Nat.le_refl _) (Nat.le_refl _) (by omega) (by omega) (fun j hj => by rw [Nat.zero_add]; exact h3 j hj) (fun j hj => by rw [Nat.zero_add]; exact hc j hj)).mono ?_
  rintro e w' ⟨rfl, q, rfl⟩
  exact ⟨by simp, below_drewN (Below.refl _ _) _⟩
theorem eq_lit {lo : Nat} {W : World} {v : Value} {l : List Int} (h : RI lo W v l) (hl : l.length ≤ 100000) :
    Calls Try.prog 27 #[v, .slice (some ⟨W.heap.size, 0, none⟩) l.length l.length] (W.alloc (Obj.cells (l.map (Value.int .i64)).toArray 3)) fun e w' => e = .returned (.bool true) ∧ Below W.heap.size W w' := by
  have hb : Below W.heap.size W (W.alloc (Obj.cells (l.map (Value.int .i64)).toArray 3)) := (Below.refl _ _).alloc (Nat.le_refl _) _
  refine (eq_ri (h.below hb) W.heap.size l.length l.length rfl hl (fun k hk => ?_)).mono ?_
  · rw [cell_of_row _ _ k _ _ (0, 0) (heap_alloc_last W _)]
    simp [hk]
  · rintro e w' ⟨rfl, h2⟩
    exact ⟨rfl, Below.chain hb h2⟩
section
variable {A : Nat → Prop} (ao : Option Addr) (c : Nat) (w : World) (hr : ERow A w ao c eX)
include hr
theorem comp_ex : Calls Try.prog 25 #[.agg #[.int .i64 5, .int .i64 4, .slice ao 5 c]] w fun e w' => Below w.heap.size w w' ∧ ∃ v, e = .returned (.tuple #[v, .int .i64 0]) ∧ RI w.heap.size w' v [3, 2, 2, 1, 0] := by
  refine Calls.mono (Components_any 5 4 ao c eX w hr) ?_
  rintro e w' ⟨hb, ⟨h, -⟩ | ⟨-, t, us, LL, g, rfl, h1, h2, h3, h4, h5, h6⟩⟩
  · exact absurd eX_ck h
  · exact ⟨hb, _, rfl, RI.of_nm h5 h6 rfl (ex_comp h1 h2 h3 h4)⟩
theorem dom_ex : Calls Try.prog 28 #[.agg #[.int .i64 5, .int .i64 4, .slice ao 5 c]] w fun e w' => Below w.heap.size w w' ∧ ∃ v, e = .returned (.tuple #[v, .int .i64 0]) ∧ RI w.heap.size w' v [-1, 0, 1, 1, 3] := by
  refine Calls.mono (Dominators_any 5 4 ao c eX w hr) ?_
  rintro e w' ⟨hb, ⟨h, -⟩ | ⟨-, g, t, T, rfl, h1, h2, h3⟩⟩
  · exact absurd eX_ck h
  · exact ⟨hb, _, rfl, RI.of_nm h2 h3 rfl (ex_dom h1)⟩
theorem pdom_ex : Calls Try.prog 30 #[.agg #[.int .i64 5, .int .i64 4, .slice ao 5 c]] w fun e w' => Below w.heap.size w w' ∧ ∃ v, e = .returned (.tuple #[v, .int .i64 0]) ∧ RI w.heap.size w' v [1, 3, 1, 4, -1] := by
  refine Calls.mono (Postdominators_any 5 4 ao c eX w hr) ?_
  rintro e w' ⟨hb, ⟨h, -⟩ | ⟨-, g, t, T, rfl, h1, h2, h3⟩⟩
  · exact absurd eX_ck h
  · exact ⟨hb, _, rfl, RI.of_nm h2 h3 rfl (ex_pdom h1)⟩
theorem back_ex : Calls Try.prog 32 #[.agg #[.int .i64 5, .int .i64 4, .slice ao 5 c]] w fun e w' => Below w.heap.size w w' ∧ ∃ v, e = .returned (.tuple #[v, .int .i64 0]) ∧ RI w.heap.size w' v [2] := by
  refine Calls.mono (Back_any 5 4 ao c eX w hr) ?_
  rintro e w' ⟨hb, ⟨h, -⟩ | ⟨-, v, t, T, rfl, h1, h2⟩⟩
  · exact absurd eX_ck h
  · refine ⟨hb, _, rfl, ?_⟩
    have e1 := ex_back h1
    rw [show eX.length = 5 from rfl, show Int.toNat 5 = 5 from rfl, e1] at h2
    exact RI.of_own h2 (by decide)
theorem red_ex : Calls Try.prog 36 #[.agg #[.int .i64 5, .int .i64 4, .slice ao 5 c]] w fun e w' => Below w.heap.size w w' ∧ e = .returned (.tuple #[.bool true, .int .i64 0]) := by
  refine Calls.mono (Reducible_any 5 4 ao c eX w hr) ?_
  rintro e w' ⟨hb, ⟨h, -⟩ | ⟨-, t, T, rfl, h1⟩⟩
  · exact absurd eX_ck h
  · refine ⟨hb, ?_⟩
    have e1 := ex_red h1
    rw [show Int.toNat 5 = 5 from rfl, e1]
theorem loops_ex : Calls Try.prog 34 #[.agg #[.int .i64 5, .int .i64 4, .slice ao 5 c]] w fun e w' => Below w.heap.size w w' ∧ ∃ g k v, e = .returned (.tuple #[.slice (some ⟨g, 0, none⟩) 1 k, .int .i64 0]) ∧ g < w'.heap.size ∧ w'.cell? ⟨g, 0, none⟩ = some (.int .i64 1) ∧ w'.cell? ⟨g, 1, none⟩ = some v ∧ RI w.heap.size w' v [1, 2] := by
  refine Calls.mono (Loops_any 5 4 ao c eX w hr) ?_
  rintro e w' ⟨hb, ⟨h, -⟩ | ⟨-, v, Ls, t, T, rfl, h1, h2, h3⟩⟩
  · exact absurd eX_ck h
  · obtain ⟨u, rfl⟩ := ex_loops h1 h3
    refine ⟨hb, ?_⟩
    rcases id h2.own.2 with ⟨e, h0⟩ | ⟨g, cap, cur, e, hlo, hg, -⟩
    · simp at h0
    · subst e
      have hc := fun k hk => World.ownsRow.cellAt h2.own k hk
      refine ⟨g, cap, u, rfl, (Array.getElem?_eq_some_iff.1 hg).1, hc 0 (by simp), hc 1 (by simp), RI.of_own (h2.pts _ (List.mem_singleton.2 rfl)) (by simp)⟩
end
theorem red_ey {A : Nat → Prop} (ao : Option Addr) (c : Nat) (w : World) (hr : ERow A w ao c eY) : Calls Try.prog 36 #[.agg #[.int .i64 5, .int .i64 4, .slice ao 6 c]] w fun e w' => Below w.heap.size w w' ∧ e = .returned (.tuple #[.bool false, .int .i64 0]) := by
  refine Calls.mono (Reducible_any 5 4 ao c eY w hr) ?_
  rintro e w' ⟨hb, ⟨h, -⟩ | ⟨-, t, T, rfl, h1⟩⟩
  · exact absurd eY_ck h
  · refine ⟨hb, ?_⟩
    have e1 := ey_red h1
    rw [show Int.toNat 5 = 5 from rfl, e1]
theorem check_ez (w : World) : Calls Try.prog 21 #[.agg #[.int .i64 0, .int .i64 0, nilS]] w fun e w' => e = .returned (.int .i64 2) ∧ Below w.heap.size w w' := by
  refine Calls.mono (check_any (A := fun _ => True) 0 0 none 0 [] w ⟨Nat.le_refl _, by decide, fun x hx => by simp at hx, .inl rfl⟩) ?_
  rintro e w' ⟨rfl, hb⟩
  exact ⟨rfl, hb⟩
def prX : List (Int × Int) := [(0, 1), (1, 2), (2, 1), (1, 3), (3, 4)]
theorem edges_ex (w : World) : Calls Try.prog 46 #[.int .i64 5, .int .i64 4, .slice (some ⟨w.heap.size, 0, none⟩) 5 5] (w.alloc (Obj.cells #[.int .i64 0, .int .i64 1, .int .i64 1, .int .i64 2, .int .i64 2, .int .i64 1, .int .i64 1, .int .i64 3, .int .i64 3, .int .i64 4] 87)) fun e w' => ∃ ao c, e = .returned (.agg #[.int .i64 5, .int .i64 4, .slice ao 5 c]) ∧ EOwn (w.heap.size + 1) w' (.slice ao 5 c) eX ∧ Below (w.alloc (Obj.cells #[.int .i64 0, .int .i64 1, .int .i64 1, .int .i64 2, .int .i64 2, .int .i64 1, .int .i64 1, .int .i64 3, .int .i64 3, .int .i64 4] 87)).heap.size (w.alloc (Obj.cells #[.int .i64 0, .int .i64 1, .int .i64 1, .int .i64 2, .int .i64 2, .int .i64 1, .int .i64 1, .int .i64 3, .int .i64 3, .int .i64 4] 87)) w' := by
  have hcell : ∀ j u, (#[.int .i64 0, .int .i64 1, .int .i64 1, .int .i64 2, .int .i64 2, .int .i64 1, .int .i64 1, .int .i64 3, .int .i64 3, .int .i64 4] : Array Value)[j]? = some u → (w.alloc (Obj.cells #[.int .i64 0, .int .i64 1, .int .i64 1, .int .i64 2, .int .i64 2, .int .i64 1, .int .i64 1, .int .i64 3, .int .i64 3, .int .i64 4] 87)).cell? ⟨w.heap.size, j, none⟩ = some u := fun j u hu => by
    rw [cell_of_row _ _ j _ _ (0, 0) (heap_alloc_last w _)]; exact hu
  refine (edges_any 5 4 w.heap.size 5 prX (w.alloc (Obj.cells #[.int .i64 0, .int .i64 1, .int .i64 1, .int .i64 2, .int .i64 2, .int .i64 1, .int .i64 1, .int .i64 3, .int .i64 3, .int .i64 4] 87)) (by decide) (by simp) (fun k hk => ?_)).mono ?_
  · have hk5 : k < 5 := hk
    match k, hk5 with
    | 0, _ => exact ⟨hcell 0 _ rfl, hcell 1 _ rfl⟩
    | 1, _ => exact ⟨hcell 2 _ rfl, hcell 3 _ rfl⟩
    | 2, _ => exact ⟨hcell 4 _ rfl, hcell 5 _ rfl⟩
    | 3, _ => exact ⟨hcell 6 _ rfl, hcell 7 _ rfl⟩
    | 4, _ => exact ⟨hcell 8 _ rfl, hcell 9 _ rfl⟩
  · rintro e w' ⟨ao, c, rfl, h1, h2⟩
    exact ⟨ao, c, rfl, World.ownsRow.mono h1 (by simp), h2⟩
set_option maxRecDepth 100000 in
set_option maxHeartbeats 600000 in
theorem awake_any (w : World) : Calls Try.prog 14 #[] w fun e w' => e = .returned (.bool true) ∧ Below w.heap.size w w' := by
  have KE := Lib.hid (edges_ex w)
  go_enter Try.func14, Try.ntmps14
  go_wp2_with (go_at_call 46; refine (KE.out).mono ?_; rintro e w1 ⟨ao, c, rfl, hE, hb⟩; refine Hid.out ?_)
  have bV : Below w1.heap.size w1 (w1.alloc (Obj.cells #[.int .i64 5, .int .i64 4, .slice ao 5 c] 24)) := (Below.refl _ _).alloc (Nat.le_refl _) _
  have hX2 := GBx.new w1 5 4 ao 5 c
  have hB2 : Below w.heap.size w (w1.alloc (Obj.cells #[.int .i64 5, .int .i64 4, .slice ao 5 c] 24)) := (((Below.refl _ _).alloc (Nat.le_refl _) _ : Below w.heap.size w (w.alloc (Obj.cells #[.int .i64 0, .int .i64 1, .int .i64 1, .int .i64 2, .int .i64 2, .int .i64 1, .int .i64 1, .int .i64 3, .int .i64 3, .int .i64 4] 87))).trans (hb.mono (by simp))).trans (bV.mono (by have := hb.size; simp at this; omega))
  have hE2 := hE.below bV
  have hF2 : ∀ j, (w1.alloc (Obj.cells #[.int .i64 5, .int .i64 4, .slice ao 5 c] 24)).frozen? ⟨w1.heap.size, j, none⟩ = false := fun j => frozen_of_row _ _ j _ _ (heap_alloc_last _ _)
  have HW1 : Hid (w.heap.size + 1 ≤ w1.heap.size) := Lib.hid (by have := hb.size; simpa using this)
  have HF := Lib.hid hF2; have HE1 := Lib.hid (fun b e => hE.lt (b := b) e)
  clear hF2
  have HX := Lib.hid hX2; have HB := Lib.hid hB2; have HE := Lib.hid hE2
  have hk := comp_ex ao c (w1.alloc (Obj.cells #[.int .i64 5, .int .i64 4, .slice ao 5 c] 24)) hE2.row
  have HK := Lib.hid hk
  obtain ⟨y0, y1, y2, y3⟩ := hX2
  clear bV hB2 hE2 hk hb hE KE
  refine Lib.hid ?_
  go_wp2_with (go_at_call 25; refine (HK.out).mono ?_; rintro e w3 ⟨hb, v0, rfl, hr⟩; refine Hid.out ?_)
  have hf0 := fun j => (hb.frozen (p := ⟨w1.heap.size, j, none⟩) HX.out.lt).trans (HF.out j); clear HF; have HF := Lib.hid hf0
  have hx0 := HX.out.below hb; clear HX; have HX := Lib.hid hx0
  have hb0 := HB.out.trans (hb.mono HB.out.size); clear HB; have HB := Lib.hid hb0
  have he0 := HE.out.below hb; clear HE; have HE := Lib.hid he0
  clear HK y0 y1 y2 y3
  have R0 := Lib.hid hr
  have hk0 := dom_ex ao c w3 he0.row
  have HK := Lib.hid hk0
  clear hk0
  obtain ⟨y0, y1, y2, y3⟩ := hx0
  clear hb0 he0 hf0 hb hr
  refine Lib.hid ?_
  go_wp2_with (go_at_call 28; refine (HK.out).mono ?_; rintro e w4 ⟨hb, v1, rfl, hr⟩; refine Hid.out ?_)
  have R0x := Lib.hid (R0.out.below hb); clear R0; have R0 := R0x; clear R0x
  have hf1 := fun j => (hb.frozen (p := ⟨w1.heap.size, j, none⟩) HX.out.lt).trans (HF.out j); clear HF; have HF := Lib.hid hf1
  have hx1 := HX.out.below hb; clear HX; have HX := Lib.hid hx1
  have hb1 := HB.out.trans (hb.mono HB.out.size); clear HB; have HB := Lib.hid hb1
  have he1 := HE.out.below hb; clear HE; have HE := Lib.hid he1
  clear HK y0 y1 y2 y3
  have R1 := Lib.hid hr
  have hk1 := pdom_ex ao c w4 he1.row
  have HK := Lib.hid hk1
  clear hk1
  obtain ⟨y0, y1, y2, y3⟩ := hx1
  clear hb1 he1 hf1 hb hr
  refine Lib.hid ?_
  go_wp2_with (go_at_call 30; refine (HK.out).mono ?_; rintro e w5 ⟨hb, v2, rfl, hr⟩; refine Hid.out ?_)
  have R0x := Lib.hid (R0.out.below hb); clear R0; have R0 := R0x; clear R0x
  have R1x := Lib.hid (R1.out.below hb); clear R1; have R1 := R1x; clear R1x
  have hf2 := fun j => (hb.frozen (p := ⟨w1.heap.size, j, none⟩) HX.out.lt).trans (HF.out j); clear HF; have HF := Lib.hid hf2
  have hx2 := HX.out.below hb; clear HX; have HX := Lib.hid hx2
  have hb2 := HB.out.trans (hb.mono HB.out.size); clear HB; have HB := Lib.hid hb2
  have he2 := HE.out.below hb; clear HE; have HE := Lib.hid he2
  clear HK y0 y1 y2 y3
  have R2 := Lib.hid hr
  have hk2 := back_ex ao c w5 he2.row
  have HK := Lib.hid hk2
  clear hk2
  obtain ⟨y0, y1, y2, y3⟩ := hx2
  clear hb2 he2 hf2 hb hr
  refine Lib.hid ?_
  go_wp2_with (go_at_call 32; refine (HK.out).mono ?_; rintro e w6 ⟨hb, v3, rfl, hr⟩; refine Hid.out ?_)
  have R0x := Lib.hid (R0.out.below hb); clear R0; have R0 := R0x; clear R0x
  have R1x := Lib.hid (R1.out.below hb); clear R1; have R1 := R1x; clear R1x
  have R2x := Lib.hid (R2.out.below hb); clear R2; have R2 := R2x; clear R2x
  have hf3 := fun j => (hb.frozen (p := ⟨w1.heap.size, j, none⟩) HX.out.lt).trans (HF.out j); clear HF; have HF := Lib.hid hf3
  have hx3 := HX.out.below hb; clear HX; have HX := Lib.hid hx3
  have hb3 := HB.out.trans (hb.mono HB.out.size); clear HB; have HB := Lib.hid hb3
  have he3 := HE.out.below hb; clear HE; have HE := Lib.hid he3
  clear HK y0 y1 y2 y3
  have R3 := Lib.hid hr
  have hk3 := loops_ex ao c w6 he3.row
  have HK := Lib.hid hk3
  clear hk3
  obtain ⟨y0, y1, y2, y3⟩ := hx3
  clear hb3 he3 hf3 hb hr
  refine Lib.hid ?_
  go_wp2_with (go_at_call 34; refine (HK.out).mono ?_; rintro e w7 ⟨hb, lg, lk, lv, rfl, hl1, hl2, hl3, hr⟩; refine Hid.out ?_)
  have R0x := Lib.hid (R0.out.below hb); clear R0; have R0 := R0x; clear R0x
  have R1x := Lib.hid (R1.out.below hb); clear R1; have R1 := R1x; clear R1x
  have R2x := Lib.hid (R2.out.below hb); clear R2; have R2 := R2x; clear R2x
  have R3x := Lib.hid (R3.out.below hb); clear R3; have R3 := R3x; clear R3x
  have hf4 := fun j => (hb.frozen (p := ⟨w1.heap.size, j, none⟩) HX.out.lt).trans (HF.out j); clear HF; have HF := Lib.hid hf4
  have hx4 := HX.out.below hb; clear HX; have HX := Lib.hid hx4
  have hb4 := HB.out.trans (hb.mono HB.out.size); clear HB; have HB := Lib.hid hb4
  have he4 := HE.out.below hb; clear HE; have HE := Lib.hid he4
  clear HK y0 y1 y2 y3
  have R4 := Lib.hid hr; have LC0 := Lib.hid (And.intro hl1 (And.intro hl2 hl3))
  clear hl1 hl2 hl3
  have hk4 := red_ex ao c w7 he4.row
  have HK := Lib.hid hk4
  clear hk4
  obtain ⟨y0, y1, y2, y3⟩ := hx4
  clear hb4 he4 hf4 hb hr
  refine Lib.hid ?_
  go_wp2_with (go_at_call 36; refine (HK.out).mono ?_; rintro e w8 ⟨hb, rfl⟩; refine Hid.out ?_)
  have R0x := Lib.hid (R0.out.below hb); clear R0; have R0 := R0x; clear R0x
  have R1x := Lib.hid (R1.out.below hb); clear R1; have R1 := R1x; clear R1x
  have R2x := Lib.hid (R2.out.below hb); clear R2; have R2 := R2x; clear R2x
  have R3x := Lib.hid (R3.out.below hb); clear R3; have R3 := R3x; clear R3x
  have R4x := Lib.hid (R4.out.below hb); clear R4; have R4 := R4x; clear R4x
  have LC := Lib.hid (And.intro (Nat.lt_of_lt_of_le LC0.out.1 hb.size) (And.intro ((hb.cell (p := ⟨lg, 0, none⟩) LC0.out.1).trans LC0.out.2.1) ((hb.cell (p := ⟨lg, 1, none⟩) LC0.out.1).trans LC0.out.2.2)))
  clear LC0
  have hf5 := fun j => (hb.frozen (p := ⟨w1.heap.size, j, none⟩) HX.out.lt).trans (HF.out j); clear HF; have HF := Lib.hid hf5
  have hx5 := HX.out.below hb; clear HX; have HX := Lib.hid hx5
  have hb5 := HB.out.trans (hb.mono HB.out.size); clear HB; have HB := Lib.hid hb5
  have he5 := HE.out.below hb; clear HE; have HE := Lib.hid he5
  clear HK y0 y1 y2 y3
  obtain ⟨y0, y1, y2, y3⟩ := hx5
  clear hb5 he5 hf5 hb
  clear y0 y1 y2 y3
  have HQ := Lib.hid (eq_lit R0.out (by decide))
  refine Lib.hid ?_
  go_wp2_with (go_at_call 27; refine (HQ.out).mono ?_; rintro e w9 ⟨rfl, hb⟩; refine Hid.out ?_)
  clear HQ
  have hfw9 := fun j => (hb.frozen (p := ⟨w1.heap.size, j, none⟩) HX.out.lt).trans (HF.out j); clear HF; have HF := Lib.hid hfw9
  have hxw9 := HX.out.below hb; clear HX; have HX := Lib.hid hxw9
  have hbw9 := HB.out.trans (hb.mono HB.out.size); clear HB; have HB := Lib.hid hbw9
  have hew9 := HE.out.below hb; clear HE; have HE := Lib.hid hew9
  have R1x := Lib.hid (R1.out.below hb); clear R1; have R1 := R1x; clear R1x
  have R2x := Lib.hid (R2.out.below hb); clear R2; have R2 := R2x; clear R2x
  have R3x := Lib.hid (R3.out.below hb); clear R3; have R3 := R3x; clear R3x
  have R4x := Lib.hid (R4.out.below hb); clear R4; have R4 := R4x; clear R4x
  have LCx := Lib.hid (And.intro (Nat.lt_of_lt_of_le LC.out.1 hb.size) (And.intro ((hb.cell (p := ⟨lg, 0, none⟩) LC.out.1).trans LC.out.2.1) ((hb.cell (p := ⟨lg, 1, none⟩) LC.out.1).trans LC.out.2.2)))
  clear LC; have LC := LCx; clear LCx
  clear hfw9 hxw9 hbw9 hew9 hb
  have HQ := Lib.hid (eq_lit R1.out (by decide))
  refine Lib.hid ?_
  go_wp2_with (go_at_call 27; refine (HQ.out).mono ?_; rintro e w10 ⟨rfl, hb⟩; refine Hid.out ?_)
  clear HQ
  have hfw10 := fun j => (hb.frozen (p := ⟨w1.heap.size, j, none⟩) HX.out.lt).trans (HF.out j); clear HF; have HF := Lib.hid hfw10
  have hxw10 := HX.out.below hb; clear HX; have HX := Lib.hid hxw10
  have hbw10 := HB.out.trans (hb.mono HB.out.size); clear HB; have HB := Lib.hid hbw10
  have hew10 := HE.out.below hb; clear HE; have HE := Lib.hid hew10
  have R2x := Lib.hid (R2.out.below hb); clear R2; have R2 := R2x; clear R2x
  have R3x := Lib.hid (R3.out.below hb); clear R3; have R3 := R3x; clear R3x
  have R4x := Lib.hid (R4.out.below hb); clear R4; have R4 := R4x; clear R4x
  have LCx := Lib.hid (And.intro (Nat.lt_of_lt_of_le LC.out.1 hb.size) (And.intro ((hb.cell (p := ⟨lg, 0, none⟩) LC.out.1).trans LC.out.2.1) ((hb.cell (p := ⟨lg, 1, none⟩) LC.out.1).trans LC.out.2.2)))
  clear LC; have LC := LCx; clear LCx
  clear hfw10 hxw10 hbw10 hew10 hb
  have HQ := Lib.hid (eq_lit R2.out (by decide))
  refine Lib.hid ?_
  go_wp2_with (go_at_call 27; refine (HQ.out).mono ?_; rintro e w11 ⟨rfl, hb⟩; refine Hid.out ?_)
  clear HQ
  have hfw11 := fun j => (hb.frozen (p := ⟨w1.heap.size, j, none⟩) HX.out.lt).trans (HF.out j); clear HF; have HF := Lib.hid hfw11
  have hxw11 := HX.out.below hb; clear HX; have HX := Lib.hid hxw11
  have hbw11 := HB.out.trans (hb.mono HB.out.size); clear HB; have HB := Lib.hid hbw11
  have hew11 := HE.out.below hb; clear HE; have HE := Lib.hid hew11
  have R3x := Lib.hid (R3.out.below hb); clear R3; have R3 := R3x; clear R3x
  have R4x := Lib.hid (R4.out.below hb); clear R4; have R4 := R4x; clear R4x
  have LCx := Lib.hid (And.intro (Nat.lt_of_lt_of_le LC.out.1 hb.size) (And.intro ((hb.cell (p := ⟨lg, 0, none⟩) LC.out.1).trans LC.out.2.1) ((hb.cell (p := ⟨lg, 1, none⟩) LC.out.1).trans LC.out.2.2)))
  clear LC; have LC := LCx; clear LCx
  clear hfw11 hxw11 hbw11 hew11 hb
  have HQ := Lib.hid (eq_lit R3.out (by decide))
  refine Lib.hid ?_
  go_wp2_with (go_at_call 27; refine (HQ.out).mono ?_; rintro e w12 ⟨rfl, hb⟩; refine Hid.out ?_)
  clear HQ
  have hfw12 := fun j => (hb.frozen (p := ⟨w1.heap.size, j, none⟩) HX.out.lt).trans (HF.out j); clear HF; have HF := Lib.hid hfw12
  have hxw12 := HX.out.below hb; clear HX; have HX := Lib.hid hxw12
  have hbw12 := HB.out.trans (hb.mono HB.out.size); clear HB; have HB := Lib.hid hbw12
  have hew12 := HE.out.below hb; clear HE; have HE := Lib.hid hew12
  have R4x := Lib.hid (R4.out.below hb); clear R4; have R4 := R4x; clear R4x
  have LCx := Lib.hid (And.intro (Nat.lt_of_lt_of_le LC.out.1 hb.size) (And.intro ((hb.cell (p := ⟨lg, 0, none⟩) LC.out.1).trans LC.out.2.1) ((hb.cell (p := ⟨lg, 1, none⟩) LC.out.1).trans LC.out.2.2)))
  clear LC; have LC := LCx; clear LCx
  clear hfw12 hxw12 hbw12 hew12 hb
  obtain ⟨l0, l1, l2⟩ := LC.out
  have HQ := Lib.hid (eq_lit R4.out (by decide))
  refine Lib.hid ?_
  go_wp2_with (go_at_call 27; refine (HQ.out).mono ?_; rintro e w13 ⟨rfl, hb⟩; refine Hid.out ?_)
  clear HQ
  clear l0 l1 l2
  have hfw13 := fun j => (hb.frozen (p := ⟨w1.heap.size, j, none⟩) HX.out.lt).trans (HF.out j); clear HF; have HF := Lib.hid hfw13
  have hxw13 := HX.out.below hb; clear HX; have HX := Lib.hid hxw13
  have hbw13 := HB.out.trans (hb.mono HB.out.size); clear HB; have HB := Lib.hid hbw13
  have hew13 := HE.out.below hb; clear HE; have HE := Lib.hid hew13
  have LCx := Lib.hid (And.intro (Nat.lt_of_lt_of_le LC.out.1 hb.size) (And.intro ((hb.cell (p := ⟨lg, 0, none⟩) LC.out.1).trans LC.out.2.1) ((hb.cell (p := ⟨lg, 1, none⟩) LC.out.1).trans LC.out.2.2)))
  clear LC; have LC := LCx; clear LCx
  clear hfw13 hxw13 hbw13 hew13 hb
  obtain ⟨y0, y1, y2, y3⟩ := HX.out
  have bC : Below w13.heap.size w13 (w13.alloc (.cells #[.int .i64 0, .int .i64 2, .int .i64 0, .int .i64 0, .int .i64 0, .int .i64 0, .int .i64 0, .int .i64 0, .int .i64 0, .string ⟨#[]⟩, .int .i64 0, .slice none 0 0, .int .i64 0, .string ⟨#[]⟩, .int .i64 0, .slice none 0 0, .int .i64 0, .slice none 0 0, .slice none 0 0, .slice none 0 0, .slice none 0 0] 55)) := (Below.refl _ _).alloc (Nat.le_refl _) _
  have hzC : (w13.alloc (.cells #[.int .i64 0, .int .i64 2, .int .i64 0, .int .i64 0, .int .i64 0, .int .i64 0, .int .i64 0, .int .i64 0, .int .i64 0, .string ⟨#[]⟩, .int .i64 0, .slice none 0 0, .int .i64 0, .string ⟨#[]⟩, .int .i64 0, .slice none 0 0, .int .i64 0, .slice none 0 0, .slice none 0 0, .slice none 0 0, .slice none 0 0] 55)).heap.size = w13.heap.size + 1 := by simp
  have hxC := HX.out.below bC
  have hoC := HE.out.below bC
  have heC := EdAt.box w13 (zE 0 2)
  rw [zE_cs] at heC
  have hfC := fun j => (bC.frozen (p := ⟨w1.heap.size, j, none⟩) HX.out.lt).trans (HF.out j)
  have hbC := HB.out.trans (bC.mono HB.out.size)
  have HEC := Lib.hid heC; have HOC := Lib.hid hoC; have HXC := Lib.hid hxC; have HFC := Lib.hid hfC; have HBC := Lib.hid hbC; have HZC := Lib.hid hzC
  have HLE : Hid (w.heap.size + 1 ≤ (w13.alloc (.cells #[.int .i64 0, .int .i64 2, .int .i64 0, .int .i64 0, .int .i64 0, .int .i64 0, .int .i64 0, .int .i64 0, .int .i64 0, .string ⟨#[]⟩, .int .i64 0, .slice none 0 0, .int .i64 0, .string ⟨#[]⟩, .int .i64 0, .slice none 0 0, .int .i64 0, .slice none 0 0, .slice none 0 0, .slice none 0 0, .slice none 0 0] 55)).heap.size) := Lib.hid (by have := HB.out.size; have := HX.out.lt; have h3 := HE1.out; have := HW1.out; omega)
  clear HE HB HF LC hxC hoC heC hfC hbC bC hzC
  refine Lib.hid ?_
  go_wp2_with (first | (at_builtin; refine wpList_pushE (lo := w.heap.size + 1) (L := eX) rfl (.tmp 112) (.tmp 114) rfl (by simp [Act.eval, Act.put]) HOC.out (by decide) HLE.out w13.heap.size (by simp [Act.eval, Act.put]) HEC.out ?_; intro g9 cap n9 w14 hn9 h9 hg9 hgx; obtain rfl : n9 = 6 := hn9; refine Hid.out ?_) | fail)
  have b14 := But.of_grown (S := fun b => (Value.slice ao 5 c).ownBlock = some b) hg9 (fun _ e => e)
  have hno : ¬ (Value.slice ao 5 c).ownBlock = some w1.heap.size := fun e => by have := (HE1.out _ e).2; omega
  have hx14 := HXC.out.but b14 hno
  have hf14 := fun j => (b14.frozen (p := ⟨w1.heap.size, j, none⟩) HXC.out.lt hno).trans (HFC.out j)
  have hb14 := HBC.out.trans (⟨b14.os, b14.tape, b14.output, b14.size, fun j hj => b14.block j (by have := HBC.out.size; omega) (fun e => by have := (HOC.out.lt e).1; omega)⟩ : Below w.heap.size (w13.alloc (.cells #[.int .i64 0, .int .i64 2, .int .i64 0, .int .i64 0, .int .i64 0, .int .i64 0, .int .i64 0, .int .i64 0, .int .i64 0, .string ⟨#[]⟩, .int .i64 0, .slice none 0 0, .int .i64 0, .string ⟨#[]⟩, .int .i64 0, .slice none 0 0, .int .i64 0, .slice none 0 0, .slice none 0 0, .slice none 0 0, .slice none 0 0] 55)) w14)
  have hgb : g9 ≠ w1.heap.size := fun e => by
    have h1 := HX.out.lt
    rcases hgx with q | q
    · rw [e] at q; exact hno q
    · rw [HZC.out] at q; omega
  obtain ⟨z0, z1, z2, z3⟩ := hx14
  have zf := hf14 2
  have m0 : (w14.setCell ⟨w1.heap.size, 2, none⟩ (.slice (some ⟨g9, 0, none⟩) 6 cap)).cell? ⟨w1.heap.size, 0, none⟩ = some (.int .i64 5) := by rw [World.cell?_setCell_other (h := by intro q; cases q)]; exact z0
  have m1 : (w14.setCell ⟨w1.heap.size, 2, none⟩ (.slice (some ⟨g9, 0, none⟩) 6 cap)).cell? ⟨w1.heap.size, 1, none⟩ = some (.int .i64 4) := by rw [World.cell?_setCell_other (h := by intro q; cases q)]; exact z1
  have m2 := cellSet z2 (.slice (some ⟨g9, 0, none⟩) 6 cap)
  have b15 : But (fun b => b = w1.heap.size) w14 (w14.setCell ⟨w1.heap.size, 2, none⟩ (.slice (some ⟨g9, 0, none⟩) 6 cap)) := But.set (S := fun b => b = w1.heap.size) (But.refl _ w14) ⟨w1.heap.size, 2, none⟩ (.slice (some ⟨g9, 0, none⟩) 6 cap) (fun _ => rfl)
  have ho15 : EOwn (w.heap.size + 1) (w14.setCell ⟨w1.heap.size, 2, none⟩ (.slice (some ⟨g9, 0, none⟩) 6 cap)) (.slice (some ⟨g9, 0, none⟩) 6 cap) eY := EOwn.but h9 b15 (fun b e q => by cases e; exact hgb q)
  have hb15 := hb14.trans (⟨b15.os, b15.tape, b15.output, b15.size, fun j hj => b15.block j (by have := hb14.size; omega) (by have := HW1.out; omega)⟩ : Below w.heap.size w14 (w14.setCell ⟨w1.heap.size, 2, none⟩ (.slice (some ⟨g9, 0, none⟩) 6 cap)))
  have KR := Lib.hid (red_ey (some ⟨g9, 0, none⟩) cap (w14.setCell ⟨w1.heap.size, 2, none⟩ (.slice (some ⟨g9, 0, none⟩) 6 cap)) ho15.row)
  have H15 := Lib.hid hb15
  have M0 := Lib.hid m0; have M1 := Lib.hid m1; have M2 := Lib.hid m2
  have KC := Lib.hid check_ez
  clear m0 m1 m2 b15 ho15 hb15 hb14 b14 hno hf14 h9 hg9 hgb hgx y0 y1 y2 y3 HXC HOC HEC HFC HBC HLE
  have m0 := M0.out; have m1 := M1.out; have m2 := M2.out
  refine Lib.hid ?_
  go_wp2_with (first | (go_at_call 36; refine (KR.out).mono ?_; rintro e w15 ⟨hb, rfl⟩; refine Hid.out ?_) | fail)
  have H16 := Lib.hid (H15.out.trans (hb.mono H15.out.size))
  clear m0 m1 m2 M0 M1 M2 z0 z1 z2 z3 zf hb KR H15
  refine Lib.hid ?_
  go_wp2_with (first | (go_at_call 21; refine (KC.out _).mono ?_; rintro e w16 ⟨rfl, hb⟩; refine Hid.out ?_) | fail)
  have H17 := Lib.hid (H16.out.trans (hb.mono H16.out.size))
  clear hb H16 KC
  refine Lib.hid ?_
  go_wp2_with fail
  refine bodyPost_ret (by first | (simp [results, Try.results14, go_sem]; done) | (simp [results, Try.results14, go_sem]; rfl)) rfl ?_
  exact ⟨rfl, H17.out⟩
end Go.Proofs.Ytjjkabgbcflipaa
