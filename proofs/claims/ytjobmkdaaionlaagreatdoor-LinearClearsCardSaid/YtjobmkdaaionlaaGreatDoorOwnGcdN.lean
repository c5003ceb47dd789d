import Derived.Deep.RegionHeld3
import Derived.Test.YtjobmkdaaionlaaGreatDoorOwnReduce
import Derived.Test.YtjobmkdaaionlaaGreatDoorCut5
import Derived.Test.YtjobmkdaaionlaaGreatDoorCut12

set_option linter.unusedVariables false
/-
  natural: Gcd; bigint: commonDivisor.
-/
namespace Go.Proofs.YtjobmkdaaionlaaGreatDoor
open Go Go.Proofs Go.RowKit
def magN (W : World) (p : Nat) : Nat :=
  match W.cell? ⟨p, 0, none⟩ with
  | some (.slice (some ⟨b, off, _⟩) n _) => val ((List.range n).map fun k => match W.cell? ⟨b, off + k, none⟩ with | some (.int _ v) => v.toNat | _ => 0)
  | _ => 0
theorem magN_eq {W : World} {p : Nat} {z : Nat} {ao : Option Addr} {c : Nat} (h : W.cell? ⟨p, 0, none⟩ = some (.slice ao (limbs z).length c)) (hr : RowAt W ao c (limbs z)) : magN W p = z := by
  unfold magN
  rw [h]
  obtain ⟨h1, h2, h3⟩ := hr
  rcases h3 with ⟨h3, -⟩ | ⟨b, off, rfl, hlt, hc⟩
  · have hz : z = 0 := limbs_nil_iff.1 h3
    subst hz
    cases ao with
    | none => rfl
    | some a => obtain ⟨b, off, ix⟩ := a; rw [h3]; rfl
  · have e : ((List.range (limbs z).length).map fun k => match W.cell? ⟨b, off + k, none⟩ with | some (.int _ v) => v.toNat | _ => 0) = limbs z := by
      refine List.ext_getElem (by simp) fun k hk1 hk2 => ?_
      rw [List.getElem_map, List.getElem_range, hc k hk2]
      simp [List.getD, List.getElem?_eq_getElem hk2]
    show val ((List.range (limbs z).length).map _) = _
    rw [e, val_limbs]
structure GB (w W : World) (X Y : Nat) (ao : Option Addr) (c : Nat) (ap : Option Addr) (d : Nat) : Prop where
  lt : w.heap.size + 1 + 1 < W.heap.size
  x : W.cell? ⟨w.heap.size, 0, none⟩ = some (.slice ao (limbs X).length c)
  y : W.cell? ⟨w.heap.size + 1, 0, none⟩ = some (.slice ap (limbs Y).length d)
  r : W.cell? ⟨w.heap.size + 1 + 1, 0, none⟩ = some (.slice none 0 0)
  fx : W.frozen? ⟨w.heap.size, 0, none⟩ = false
  fy : W.frozen? ⟨w.heap.size + 1, 0, none⟩ = false
  fr : W.frozen? ⟨w.heap.size + 1 + 1, 0, none⟩ = false
  rx : RowAt W ao c (limbs X)
  ry : RowAt W ap d (limbs Y)
  below : Below w.heap.size w W
section
variable {w W W' : World} {X Y X' Y' : Nat} {ao : Option Addr} {c : Nat} {ap : Option Addr} {d : Nat} {a1 : Option Addr} {c1 : Nat} {a2 : Option Addr} {c2 : Nat}
theorem GB.mono (h : GB w W X Y ao c ap d) (k : Below W.heap.size W W') : GB w W' X Y ao c ap d := by
  have hl := h.lt
  exact ⟨Nat.lt_of_lt_of_le h.lt k.size, (k.cell (p := ⟨w.heap.size, 0, none⟩) (by simp; omega)).trans h.x, (k.cell (p := ⟨w.heap.size + 1, 0, none⟩) (by simp; omega)).trans h.y,
    (k.cell (p := ⟨w.heap.size + 1 + 1, 0, none⟩) (by simp; omega)).trans h.r, (k.frozen (p := ⟨w.heap.size, 0, none⟩) (by simp; omega)).trans h.fx, (k.frozen (p := ⟨w.heap.size + 1, 0, none⟩) (by simp; omega)).trans h.fy,
    (k.frozen (p := ⟨w.heap.size + 1 + 1, 0, none⟩) (by simp; omega)).trans h.fr, h.rx.mono k, h.ry.mono k, Below.chain h.below k⟩
theorem GB.put (h : GB w W X Y ao c ap d) (h1 : RowAt W a1 c1 (limbs X')) (h2 : RowAt W a2 c2 (limbs Y')) :
    GB w ((W.setCell ⟨w.heap.size, 0, none⟩ (.slice a1 (limbs X').length c1)).setCell ⟨w.heap.size + 1, 0, none⟩ (.slice a2 (limbs Y').length c2)) X' Y' a1 c1 a2 c2 := by
  have e : (W.setCell ⟨w.heap.size, 0, none⟩ (.slice a1 (limbs X').length c1)).cell? ⟨w.heap.size + 1, 0, none⟩ = some (.slice ap (limbs Y).length d) := by
    rw [World.cell?_setCell_other (h := by intro e; simp at e)]; exact h.y
  refine ⟨by simpa [World.setCell] using h.lt, ?_, cellSet e _, ?_, ?_, ?_, ?_, (h1.box h.x _).box e _, (h2.box h.x _).box e _, (h.below.setCell (by simp <;> omega) _).setCell (by simp <;> omega) _⟩
  · rw [World.cell?_setCell_other (h := by intro e; simp at e)]; exact cellSet h.x _
  · rw [World.cell?_setCell_other (h := by intro e; simp at e), World.cell?_setCell_other (h := by intro e; simp at e <;> omega)]; exact h.r
  · simp only [World.frozen?_setCell]; exact h.fx
  · simp only [World.frozen?_setCell]; exact h.fy
  · simp only [World.frozen?_setCell]; exact h.fr
theorem GB.numX (h : GB w W X Y ao c ap d) : NumAt W (.agg #[.slice ao (limbs X).length c]) X := ⟨ao, c, rfl, h.rx⟩
theorem GB.numY (h : GB w W X Y ao c ap d) : NumAt W (.agg #[.slice ap (limbs Y).length d]) Y := ⟨ap, d, rfl, h.ry⟩
theorem GB.ret (h : GB w W X Y ao c ap d) {z : Nat} (h1 : RowAt W a1 c1 (limbs z)) :
    RetN z w (.returned (.agg #[.slice a1 (limbs z).length c1])) (W.setCell ⟨w.heap.size + 1 + 1, 0, none⟩ (.slice a1 (limbs z).length c1)) :=
  ⟨_, rfl, ⟨_, _, rfl, h1.box h.r _⟩, h.below.setCell (by simp <;> omega) _⟩
theorem GB.new (hx : RowAt w ao c (limbs X)) (hy : RowAt w ap d (limbs Y)) :
    GB w (((w.alloc (Obj.cells #[Value.slice ao (limbs X).length c] 173)).alloc (Obj.cells #[Value.slice ap (limbs Y).length d] 173)).alloc (Obj.cells #[Value.slice none 0 0] 173)) X Y ao c ap d :=
  ⟨by simp, by go_cell, by go_cell, by go_cell, by go_cell, by go_cell, by go_cell, ((hx.mono (rb1 _ _)).mono (rb1 _ _)).mono (rb1 _ _), ((hy.mono (rb1 _ _)).mono (rb1 _ _)).mono (rb1 _ _), by go_grown⟩
end
structure G8 (w W : World) (X Y Z : Nat) (ao : Option Addr) (c : Nat) (ap : Option Addr) (d : Nat) (q : Nat) (a4 : Option Addr) (c4 : Nat) : Prop where
  gb : GB w W X Y ao c ap d
  lt : q < W.heap.size
  gt : w.heap.size + 1 + 1 < q
  q : W.cell? ⟨q, 0, none⟩ = some (.slice a4 (limbs Z).length c4)
  row : RowAt W a4 c4 (limbs Z)
section
variable {w W W' : World} {X Y Z : Nat} {ao : Option Addr} {c : Nat} {ap : Option Addr} {d : Nat} {a4 : Option Addr} {c4 : Nat} {q : Nat}
theorem G8.mono (h : G8 w W X Y Z ao c ap d q a4 c4) (k : Below W.heap.size W W') : G8 w W' X Y Z ao c ap d q a4 c4 :=
  ⟨h.gb.mono k, Nat.lt_of_lt_of_le h.lt k.size, h.gt, (k.cell (p := ⟨q, 0, none⟩) h.lt).trans h.q, h.row.mono k⟩
theorem G8.hold (h : G8 w W X Y Z ao c ap d q a4 c4) : W.cell? ⟨w.heap.size + 1, 0, none⟩ = some (.slice ap (limbs Y).length d) ∧ W.cell? ⟨q, 0, none⟩ = some (.slice a4 (limbs Z).length c4) := ⟨h.gb.y, h.q⟩
theorem G8.holdR (h : G8 w W X Y Z ao c ap d q a4 c4) (u : Value) : (W.setCell ⟨w.heap.size + 1 + 1, 0, none⟩ u).cell? ⟨w.heap.size + 1, 0, none⟩ = some (.slice ap (limbs Y).length d) ∧ (W.setCell ⟨w.heap.size + 1 + 1, 0, none⟩ u).cell? ⟨q, 0, none⟩ = some (.slice a4 (limbs Z).length c4) := by
  have hg := h.gt
  refine ⟨?_, ?_⟩
  · rw [World.cell?_setCell_other (h := by intro e; simp at e)]; exact h.gb.y
  · rw [World.cell?_setCell_other (h := by intro e; simp at e <;> omega)]; exact h.q
theorem G8.num (h : G8 w W X Y Z ao c ap d q a4 c4) : NumAt W (.agg #[.slice a4 (limbs Z).length c4]) Z := ⟨_, _, rfl, h.row⟩
theorem G8.new (h : GB w W X Y ao c ap d) (hr : RowAt W a4 c4 (limbs Z)) (u : Value) (t : TypeId) :
    G8 w ((W.alloc (Obj.cells #[u] t)).alloc (Obj.cells #[Value.slice a4 (limbs Z).length c4] 173)) X Y Z ao c ap d (W.heap.size + 1) a4 c4 :=
  ⟨(h.mono (rb1 _ _)).mono (rb1 _ _), by simp, Nat.lt_succ_of_lt h.lt, by go_cell, (hr.mono (rb1 _ _)).mono (rb1 _ _)⟩
end
theorem cmpN_neg (x y : Nat) : cmpN x y < 0 ↔ x < y := by
  unfold cmpN
  by_cases h : x < y
  · rw [if_pos h]; exact ⟨fun _ => h, fun _ => by decide⟩
  · rw [if_neg h]
    refine ⟨fun k => ?_, fun k => absurd k h⟩
    by_cases e : x = y
    · rw [if_pos e] at k; exact absurd k (by decide)
    · rw [if_neg e] at k; exact absurd k (by decide)
theorem limbs_two {Y : Nat} (h : (limbs Y).length ≤ 2) : Y < 1000000000000000000 := Nat.lt_of_lt_of_le (lt_pow_limbs Y) (Nat.pow_le_pow_right (by decide) h)
set_option maxRecDepth 20000 in
set_option maxHeartbeats 1500000 in
theorem gcdN_any (x y : Nat) (vx vy : Value) (w : World) (hx : NumAt w vx x) (hy : NumAt w vy y) (hlx : (limbs x).length ≤ 10000000000) (hly : (limbs y).length ≤ 10000000000) :
    Calls Tryz.prog 162 #[vx, vy] w (RetN (Nat.gcd x y) w) := by
  have CM : ∀ W : World, Below w.heap.size w W → Calls Tryz.prog 194 #[vx, vy] W fun e w' => e = .returned (.int .i64 (cmpN x y)) ∧ Below W.heap.size W w' := fun W hW => compare_any x y vx vy W (hx.mono hW) (hy.mono hW)
  obtain ⟨ao, c, rfl, hrx⟩ := hx
  obtain ⟨ap, d, rfl, hry⟩ := hy
  have G0 := GB.new hrx hry
  have KCM := Lib.hid CM; have HL := Lib.hid (And.intro hlx hly)
  clear CM hrx hry hlx hly
  generalize hg : Nat.gcd x y = g at *
  have HG := Lib.hid hg; clear hg
  have key : ∀ (X Y : Nat), Y ≤ X → (limbs X).length ≤ 10000000000 → Nat.gcd X Y = g → True := fun _ _ _ _ _ => trivial
  clear key
  rcases Nat.lt_or_ge x y with hlt | hge
  all_goals
    go_enter Tryz.func162, Tryz.ntmps162
    go_wp2_with fail
    have k0 := G0.x; have k1 := G0.y
    generalize (((w.alloc (Obj.cells #[Value.slice ao (limbs x).length c] 173)).alloc (Obj.cells #[Value.slice ap (limbs y).length d] 173)).alloc (Obj.cells #[Value.slice none 0 0] 173)) = W0 at *
    (try go_wp2_with fail)
    refine (KCM.out _ G0.below).mono ?_
    rintro e w2 ⟨rfl, hb2⟩
    have G2 := G0.mono hb2
    clear G0 hb2 k0 k1
    have k0 := G2.x; have k1 := G2.y; have k2 := G2.fx; have k3 := G2.fy
    have hcmp : ∃ v : Int, cmpN x y = v ∧ (v < 0 ↔ x < y) := ⟨_, rfl, cmpN_neg x y⟩
    obtain ⟨v, hv, hvl⟩ := hcmp
    rw [hv]
    clear hv KCM
    (first
      | (have hv0 : v < 0 := hvl.2 hlt
         have G3 := G2.put G2.ry G2.rx
         have hI : x ≤ y ∧ (limbs y).length ≤ 10000000000 ∧ Nat.gcd y x = g := ⟨Nat.le_of_lt hlt, HL.out.2, by rw [Nat.gcd_comm]; exact HG.out⟩)
      | (have hv0 : ¬ v < 0 := fun h => absurd (hvl.1 h) (Nat.not_lt.2 hge)
         have G3 := G2
         have hI : y ≤ x ∧ (limbs x).length ≤ 10000000000 ∧ Nat.gcd x y = g := ⟨hge, HL.out.1, HG.out⟩))
    have HI := Lib.hid hI; have HG3 := Lib.hid G3
    clear hI G3 hvl G2 HL HG
    (first | clear hlt | clear hge)
    go_wp2_with fail
    go_loopw [16] (fun _ wr => ∃ X Y a1 c1 a2 c2, GB w wr X Y a1 c1 a2 c2 ∧ Y ≤ X ∧ (limbs X).length ≤ 10000000000 ∧ Nat.gcd X Y = g) (fun _ wr => magN wr (w.heap.size + 1))
    case atStart => exact ⟨_, _, _, _, _, _, HG3.out, HI.out⟩
    case round =>
      clear k0 k1 k2 k3 HG3 HI hv0
      obtain ⟨X, Y, a1, c1, a2, c2, hR, hYX, hXl, hgXY⟩ := hrel
      have hmag := magN_eq hR.y hR.ry
      have k0 := hR.x; have k1 := hR.y
      by_cases h2 : (limbs Y).length ≤ 2
      · have h2' : ¬ ((2 : Int) < ((limbs Y).length : Nat)) := by omega
        have hY18 := limbs_two h2
        go_wp2_with fail
        refine (isZero_any Y _ wr hR.numY).mono ?_
        rintro e w1 ⟨rfl, hb1⟩
        have R1 := hR.mono hb1
        clear hR hb1 k0 k1 hmag
        have k0 := R1.x; have k1 := R1.y; have k2 := R1.r; have k3 := R1.fr
        by_cases hY0 : Y = 0
        · rw [show decide (Y = 0) = true from decide_eq_true hY0]
          go_wp2_with fail
          have hXg : X = g := by rw [← hgXY, hY0, Nat.gcd_zero_right]
          refine bodyPost_ret (v := .agg #[.slice a1 (limbs X).length c1]) (by simp [results, Tryz.results162, go_sem, cellSet k2]) rfl ?_
          have := R1.ret R1.rx
          rwa [hXg] at this ⊢
        · rw [show decide (Y = 0) = false from decide_eq_false hY0]
          have hHid := Lib.hid (And.intro hYX (And.intro hXl (And.intro hgXY (And.intro hY18 hY0))))
          clear hYX hXl hgXY hY18 hY0 h2 h2'
          go_wp2_with fail
          refine (div_any X Y _ _ w1 R1.numX R1.numY (by have := hHid.out.2.1; omega)).mono ?_
          rintro e w3 ⟨v1, v2, rfl, hv1, hv2, hb3⟩
          obtain ⟨a3, c3, rfl, hr3⟩ := hv1
          obtain ⟨a4, c4, rfl, hr4⟩ := hv2
          have R3 := R1.mono hb3
          clear R1 hb3 k0 k1 k2 k3
          have HZ : Hid ((X % Y) < Y ∧ Nat.gcd Y (X % Y) = g ∧ Y < 1000000000000000000) := Lib.hid (by
            obtain ⟨-, -, h1, h2, h3⟩ := hHid.out
            exact ⟨Nat.mod_lt _ (Nat.pos_of_ne_zero h3), by rw [← h1, Nat.gcd_comm X Y, Nat.gcd_rec Y X, Nat.gcd_comm], h2⟩)
          generalize X % Y = Z at *
          generalize X / Y = Q at *
          have HR3 := Lib.hid R3; have HR4 := Lib.hid hr4
          clear hHid R3 hr3 hr4
          go_wp2_with fail
          have NW : G8 w ((w3.alloc (Obj.cells #[Value.slice a3 (limbs Q).length c3] 173)).alloc (Obj.cells #[Value.slice a4 (limbs Z).length c4] 173)).drew X Y Z a1 c1 a2 c2 (w3.heap.size + 1) a4 c4 :=
            (G8.new HR3.out HR4.out _ _).mono ((Below.refl _ _).drew)
          have W4e : ∃ W4, W4 = ((w3.alloc (Obj.cells #[Value.slice a3 (limbs Q).length c3] 173)).alloc (Obj.cells #[Value.slice a4 (limbs Z).length c4] 173)) := ⟨_, rfl⟩
          obtain ⟨W4, hW4⟩ := W4e
          rw [← hW4] at NW ⊢
          clear hW4 HR3 HR4
          generalize w3.heap.size + 1 = q at *
          obtain ⟨k0, k1⟩ := NW.hold
          go_region_held3 (fun w' => w'.cell? ⟨w.heap.size + 1, 0, none⟩ = some (Value.slice a2 (limbs Y).length c2) ∧ w'.cell? ⟨q, 0, none⟩ = some (Value.slice a4 (limbs Z).length c4)) (first | with_reducible exact NW.hold | with_reducible exact NW.holdR _) (first
            | (go_at_call_of 197 (Value.agg #[Value.slice a2 (limbs Y).length c2]); refine (word_any Y _ _ NW.gb.numY HZ.out.2.2).mono ?_; rintro e wn ⟨rfl, hb⟩; have NW := NW.mono hb; clear hb)
            | (go_at_call_of 197 (Value.agg #[Value.slice a4 (limbs Z).length c4]); refine (word_any Z _ _ NW.num (Nat.lt_trans HZ.out.1 HZ.out.2.2)).mono ?_; rintro e wn ⟨rfl, hb⟩; have NW := NW.mono hb; clear hb)
            | (go_at_call 172; refine (gcdWords_any Y Z _ (by have := HZ.out.2.2; omega) (by have := HZ.out; omega)).mono ?_; rintro e wn ⟨rfl, hb⟩; have NW := NW.mono hb; clear hb)
            | (go_at_call 179; refine (of_any (Nat.gcd Y Z) (by have := HZ.out; have := Nat.gcd_le_left (m := Y) Z (by omega); omega) _).mono ?_; rintro e wn ⟨v7, rfl, hv7, hb⟩; obtain ⟨a7, c7, rfl, hr7⟩ := hv7; have NW := NW.mono hb; clear hb; have k2 := NW.gb.r; have k3 := NW.gb.fr))
          all_goals
            go_wp2_with fail
            refine bodyPost_ret (v := .agg #[.slice a7 (limbs (Nat.gcd Y Z)).length c7]) (by simp [results, Tryz.results162, go_sem, cellSet k2]) rfl ?_
            have := NW.gb.ret hr7
            rwa [HZ.out.2.1] at this ⊢
      · have h2' : ((2 : Int) < ((limbs Y).length : Nat)) := by omega
        go_wp2_with fail
        refine (reduce_any X Y _ _ wr hR.numX hR.numY hYX (by omega) hXl).mono ?_
        rintro e w1 ⟨v1, v2, X', Y', rfl, hv1, hv2, hlt, hle, hle2, hgg, hb1⟩
        obtain ⟨a3, c3, rfl, hr3⟩ := hv1
        obtain ⟨a4, c4, rfl, hr4⟩ := hv2
        have R1 := hR.mono hb1
        clear hR hb1 k0 k1
        have k0 := R1.x; have k1 := R1.y; have k2 := R1.fx; have k3 := R1.fy
        have HP := Lib.hid (And.intro (R1.put hr3 hr4) (And.intro hle (And.intro (Nat.le_trans (limbs_length_mono hle2) hXl) (And.intro (hgg.trans hgXY) (And.intro hlt hmag)))))
        clear R1 hr3 hr4 hlt hle hle2 hgg hYX hXl hgXY hmag h2 h2'
        go_wp2_with fail
        obtain ⟨RP, hle, hXl, hgg, hlt, hmag⟩ := HP.out
        have hmag2 := magN_eq RP.y RP.ry
        first
          | exact ⟨⟨_, _, _, _, _, _, RP, hle, hXl, hgg⟩, by rw [hmag2, hmag]; exact hlt⟩
          | (go_show; sorry)
end Go.Proofs.YtjobmkdaaionlaaGreatDoor
