import Derived.Test.YtbadibbdoljjhaaGreatDoorOwnBezC
import Derived.Test.YtbadibbdoljjhaaGreatDoorCut13
import Derived.Test.YtbadibbdoljjhaaGreatDoorDw1
import Derived.Deep.CutRange
import Derived.Test.YtbadibbdoljjhaaGreatDoorCut14

set_option linter.unusedVariables false
/-
  bigint: bezout.
-/
namespace Go.Proofs.YtbadibbdoljjhaaGreatDoor
open Go Go.Proofs Go.RowKit

theorem limbs_small_int {z : Int} {B : Nat} (h : z.natAbs ≤ B) (hB : (limbs B).length ≤ 1000) : (limbs z.natAbs).length ≤ 1000 := Nat.le_trans (limbs_length_mono h) hB

theorem limbs_mul' {a b : Int} {j k : Nat} (ha : (limbs a.natAbs).length ≤ j) (hb : (limbs b.natAbs).length ≤ k) : (limbs (a * b).natAbs).length ≤ j + k := by
  refine limbs_length_le ?_
  rw [Int.natAbs_mul, Nat.pow_add]
  exact Nat.mul_lt_mul'' (Nat.lt_of_lt_of_le (lt_pow_limbs _) (Nat.pow_le_pow_right (by decide) ha)) (Nat.lt_of_lt_of_le (lt_pow_limbs _) (Nat.pow_le_pow_right (by decide) hb))
theorem limbs_sub' {a b : Int} {k : Nat} (ha : (limbs a.natAbs).length ≤ k) (hb : (limbs b.natAbs).length ≤ k) : (limbs (a - b).natAbs).length ≤ k + 1 := by
  refine limbs_length_le ?_
  have h1 := Nat.lt_of_lt_of_le (lt_pow_limbs a.natAbs) (Nat.pow_le_pow_right (by decide) ha)
  have h2 := Nat.lt_of_lt_of_le (lt_pow_limbs b.natAbs) (Nat.pow_le_pow_right (by decide) hb)
  rw [Nat.pow_succ]
  generalize (1000000000 : Nat) ^ k = q at *
  omega
theorem bezOf_pos (x y : Int) (hy : y ≠ 0) : bezOf x y = ((bezRun (y.natAbs : Int) (x.fmod (y.natAbs : Int)) 0 1).1, (bezRun (y.natAbs : Int) (x.fmod (y.natAbs : Int)) 0 1).2.fmod ((y.natAbs : Int).fdiv (bezRun (y.natAbs : Int) (x.fmod (y.natAbs : Int)) 0 1).1), ((bezRun (y.natAbs : Int) (x.fmod (y.natAbs : Int)) 0 1).1 - x * (bezRun (y.natAbs : Int) (x.fmod (y.natAbs : Int)) 0 1).2.fmod ((y.natAbs : Int).fdiv (bezRun (y.natAbs : Int) (x.fmod (y.natAbs : Int)) 0 1).1)).fdiv y) := by
  unfold bezOf
  rw [if_neg hy]

theorem B5.keep8 {w W : World} {a b g x : Int} {aa : Option Addr} {ca : Nat} {ab : Option Addr} {cb : Nat} {ag : Option Addr} {cg : Nat} {ax : Option Addr} {cx : Nat} (h : B5 w W a b g x aa ca ab cb ag cg ax cx) :
    W.cell? ⟨w.heap.size, 0, none⟩ = some (.bool (sgn a)) ∧ W.cell? ⟨w.heap.size, 1, none⟩ = some (.slice aa (lenZ a) ca) ∧ W.cell? ⟨w.heap.size + 1, 0, none⟩ = some (.bool (sgn b)) ∧ W.cell? ⟨w.heap.size + 1, 1, none⟩ = some (.slice ab (lenZ b) cb) ∧ W.cell? ⟨w.heap.size + 1 + 1, 0, none⟩ = some (.bool (sgn g)) ∧ W.cell? ⟨w.heap.size + 1 + 1, 1, none⟩ = some (.slice ag (lenZ g) cg) ∧ W.cell? ⟨w.heap.size + 1 + 1 + 1, 0, none⟩ = some (.bool (sgn x)) ∧ W.cell? ⟨w.heap.size + 1 + 1 + 1, 1, none⟩ = some (.slice ax (lenZ x) cx) :=
  ⟨h.a.c0, h.a.c1, h.b.c0, h.b.c1, h.g.c0, h.g.c1, h.x.c0, h.x.c1⟩
theorem B5.keep8S {w W : World} {a b g x : Int} {aa : Option Addr} {ca : Nat} {ab : Option Addr} {cb : Nat} {ag : Option Addr} {cg : Nat} {ax : Option Addr} {cx : Nat} (h : B5 w W a b g x aa ca ab cb ag cg ax cx) (u0 u1 : Value) :
    ((W.setCell ⟨w.heap.size + 1 + 1 + 1 + 1, 0, none⟩ u0).setCell ⟨w.heap.size + 1 + 1 + 1 + 1, 1, none⟩ u1).cell? ⟨w.heap.size, 0, none⟩ = some (.bool (sgn a)) ∧ ((W.setCell ⟨w.heap.size + 1 + 1 + 1 + 1, 0, none⟩ u0).setCell ⟨w.heap.size + 1 + 1 + 1 + 1, 1, none⟩ u1).cell? ⟨w.heap.size, 1, none⟩ = some (.slice aa (lenZ a) ca) ∧ ((W.setCell ⟨w.heap.size + 1 + 1 + 1 + 1, 0, none⟩ u0).setCell ⟨w.heap.size + 1 + 1 + 1 + 1, 1, none⟩ u1).cell? ⟨w.heap.size + 1, 0, none⟩ = some (.bool (sgn b)) ∧ ((W.setCell ⟨w.heap.size + 1 + 1 + 1 + 1, 0, none⟩ u0).setCell ⟨w.heap.size + 1 + 1 + 1 + 1, 1, none⟩ u1).cell? ⟨w.heap.size + 1, 1, none⟩ = some (.slice ab (lenZ b) cb) ∧ ((W.setCell ⟨w.heap.size + 1 + 1 + 1 + 1, 0, none⟩ u0).setCell ⟨w.heap.size + 1 + 1 + 1 + 1, 1, none⟩ u1).cell? ⟨w.heap.size + 1 + 1, 0, none⟩ = some (.bool (sgn g)) ∧ ((W.setCell ⟨w.heap.size + 1 + 1 + 1 + 1, 0, none⟩ u0).setCell ⟨w.heap.size + 1 + 1 + 1 + 1, 1, none⟩ u1).cell? ⟨w.heap.size + 1 + 1, 1, none⟩ = some (.slice ag (lenZ g) cg) ∧ ((W.setCell ⟨w.heap.size + 1 + 1 + 1 + 1, 0, none⟩ u0).setCell ⟨w.heap.size + 1 + 1 + 1 + 1, 1, none⟩ u1).cell? ⟨w.heap.size + 1 + 1 + 1, 0, none⟩ = some (.bool (sgn x)) ∧ ((W.setCell ⟨w.heap.size + 1 + 1 + 1 + 1, 0, none⟩ u0).setCell ⟨w.heap.size + 1 + 1 + 1 + 1, 1, none⟩ u1).cell? ⟨w.heap.size + 1 + 1 + 1, 1, none⟩ = some (.slice ax (lenZ x) cx) :=
  ⟨(h.a.other h.y (by omega) u0 u1).c0, (h.a.other h.y (by omega) u0 u1).c1, (h.b.other h.y (by omega) u0 u1).c0, (h.b.other h.y (by omega) u0 u1).c1, (h.g.other h.y (by omega) u0 u1).c0, (h.g.other h.y (by omega) u0 u1).c1, (h.x.other h.y (by omega) u0 u1).c0, (h.x.other h.y (by omega) u0 u1).c1⟩

set_option maxHeartbeats 4000000 in
theorem bezout_pos (x y : Int) (va vb : Value) (w : World) (ha : IntAt w va x) (hb : IntAt w vb y) (hlx : (limbs x.natAbs).length ≤ 1000) (hly : (limbs y.natAbs).length ≤ 1000) (hy : y ≠ 0) :
    Calls Tryz.prog 91 #[va, vb] w (BezRet (bezOf x y).1 (bezOf x y).2.1 (bezOf x y).2.2 w) := by
  have hMod : (x.fmod (y.natAbs : Int)).natAbs < y.natAbs := by have := fmod_natAbs_lt x (y.natAbs : Int) (by omega); omega
  have hI0 := BezInv.start y (x.fmod (y.natAbs : Int)) hy (fmod_nonneg _ _ (by omega)) (by omega)
  rw [bezOf_pos x y hy]
  obtain ⟨ao, c, rfl, hra⟩ := ha.open
  obtain ⟨ap, d, rfl, hrb⟩ := hb.open
  have Z : ∀ W : World, Below w.heap.size w W → Calls Tryz.prog 151 #[.agg #[.slice ap (lenZ y) d]] W fun e w' => e = .returned (.bool false) ∧ Below W.heap.size W w' := fun W hW => by
    have := isZero_any y.natAbs _ W ⟨ap, d, rfl, hrb.mono hW⟩
    rwa [show decide (y.natAbs = 0) = false by simp [hy]] at this
  have P : ∀ W : World, Below w.heap.size w W → Calls Tryz.prog 137 #[.agg #[.slice ap (lenZ y) d]] W fun e w' => ∃ v', e = .returned v' ∧ IntAt w' v' (y.natAbs : Int) ∧ Below W.heap.size W w' := fun W hW => plus_any y.natAbs _ W ⟨ap, d, rfl, hrb.mono hW⟩
  have R : ∀ (W : World) (v1 v2 : Value), IntAt W v1 x → IntAt W v2 (y.natAbs : Int) → Calls Tryz.prog 125 #[v1, v2] W fun e w' => ∃ v', e = .returned v' ∧ IntAt w' v' (x.fmod (y.natAbs : Int)) ∧ Below W.heap.size W w' := fun W v1 v2 h1 h2 => remainderZ x _ v1 v2 W h1 h2 (by omega) (by simp; omega) (by omega)
  have O : ∀ W : World, Calls Tryz.prog 153 #[.int .u64 1] W (RetN 1 W) := fun W => of_any 1 (by decide) W
  have P1 : ∀ (W : World) (v : Value), NumAt W v 1 → Calls Tryz.prog 137 #[v] W fun e w' => ∃ v', e = .returned v' ∧ IntAt w' v' 1 ∧ Below W.heap.size W w' := fun W v hv => plus_any 1 v W hv
  have R0 := b5_new hra hrb
  have KZ := Lib.hid Z; have KP := Lib.hid P; have KR := Lib.hid R; have KO := Lib.hid O; have KP1 := Lib.hid P1; have HI0 := Lib.hid hI0; have HLX := Lib.hid hlx; have HLY := Lib.hid hly; have HY := Lib.hid hy
  clear Z P R O P1 hra hrb hMod hI0 hlx hly hy
  go_enter Tryz.func91, Tryz.ntmps91
  go_wp2_with fail
  generalize (((((w.alloc (Obj.cells #[.bool (sgn x), .slice ao (lenZ x) c] 95)).alloc (Obj.cells #[.bool (sgn y), .slice ap (lenZ y) d] 95)).alloc (Obj.cells #[Value.bool false, Value.slice none 0 0] 95)).alloc (Obj.cells #[Value.bool false, Value.slice none 0 0] 95)).alloc (Obj.cells #[Value.bool false, Value.slice none 0 0] 95)) = W0 at *
  refine (KZ.out _ R0.below).mono ?_
  rintro e w2 ⟨rfl, hb2⟩
  have R2 := R0.mono hb2
  clear R0 hb2
  have k0 := R2.b.c0; have k1 := R2.b.c1
  go_upto_region 3 with fail
  go_cut [] from 10 (fun wx => ∃ ag cg, B5 w wx x y (y.natAbs : Int) 0 ao c ap d ag cg none 0)
  case first =>
    go_wp2_with fail
    refine (KP.out _ R2.below).mono ?_
    rintro e w3 ⟨v3, rfl, hv3, hb3⟩
    have R3 := R2.mono hb3
    obtain ⟨a3, c3, rfl, hr3⟩ := hv3.open
    clear R2 hb3 hv3 k0 k1
    have k2 := R3.g.c0; have k3 := R3.g.c1; have k4 := R3.g.f0; have k5 := R3.g.f1; have k6 := R3.x.c0; have k7 := R3.x.c1; have k8 := R3.x.f0; have k9 := R3.x.f1
    go_wp2_with fail
    go_meet
    case rel => exact ⟨a3, c3, (R3.setG hr3).setX0⟩
  case rest =>
    obtain ⟨ag, cg, R3⟩ := hcut
    clear R2 k0 k1
    have k0 := R3.a.c0; have k1 := R3.a.c1; have k2 := R3.g.c0; have k3 := R3.g.c1
    generalize hm : x.fmod (y.natAbs : Int) = m0 at *
    have HM := Lib.hid hm; clear hm
    go_upto_region 4 with fail
    go_cut [7, 8] from 10 (fun s7 s8 wx => ∃ pn pf an cn af cf, s7 = .pointer (some ⟨pn, 0, none⟩) ∧ s8 = .pointer (some ⟨pf, 0, none⟩) ∧ BZ w wx pn pf x y (y.natAbs : Int) 0 m0 1 ao c ap d ag cg none 0 an cn af cf)
    case first =>
      go_wp2_with fail
      refine (KR.out _ _ _ R3.a.int R3.g.int).mono ?_
      rintro e w4 ⟨v4, rfl, hv4, hb4⟩
      obtain ⟨a4, c4, rfl, hr4⟩ := hv4.open
      have R4 := R3.mono hb4
      clear R3 hb4 hv4 k0 k1 k2 k3
      have HR4 := Lib.hid hr4; clear hr4
      go_wp2_with fail
      refine (KO.out w4).mono ?_
      rintro e w5 ⟨v5, rfl, hv5, hb5⟩
      go_wp2_with fail
      refine (KP1.out w5 _ hv5).mono ?_
      rintro e w6 ⟨v6, rfl, hv6, hb6⟩
      obtain ⟨a6, c6, rfl, hr6⟩ := hv6.open
      have R6 := (R4.mono hb5).mono hb6
      have hr4 := (HR4.out.mono hb5).mono hb6
      have HH := Lib.hid (And.intro R6 (And.intro hr4 hr6))
      clear R4 R6 hr4 hr6 HR4 hb5 hb6 hv5 hv6
      go_wp2_with fail
      go_meet
      case rel =>
        obtain ⟨R6, hr4, hr6⟩ := HH.out
        have hy2 := R6.y.lt
        exact ⟨_, _, a4, c4, a6, c6, rfl, rfl, R6.mono (nb2 _ _ _), (CV.fresh rfl hr4).mono (nb1 _ _), CV.fresh (by simp) (hr6.mono (nb1 _ _)), hy2, by omega⟩
    case rest =>
      obtain ⟨pn, pf, an, cn, af, cf, rfl, rfl, hZ⟩ := hcut
      clear R3 k0 k1 k2 k3
      generalize hG : bezRun (y.natAbs : Int) m0 0 1 = G at *
      have HG := Lib.hid hG; clear hG
      have HZ := Lib.hid hZ; clear hZ
      go_wp2_with fail
      go_loopw [9] (fun _ wr => ∃ g n x' f ag cg ax cx an cn af cf, BZ w wr pn pf x y g x' n f ao c ap d ag cg ax cx an cn af cf ∧ BezInv y.natAbs g n x' f ∧ bezRun g n x' f = G) (fun _ wr => magAt wr pn)
      case atStart => exact ⟨_, _, _, _, _, _, _, _, _, _, _, _, HZ.out, HI0.out, HG.out⟩
      case round =>
        obtain ⟨g, n, x', f, ag, cg, ax, cx, an, cn, af, cf, hR, hI, hG⟩ := hrel
        have j0 := hR.n.c1
        go_wp2_with fail
        refine (isZero_any n.natAbs _ wr ⟨an, cn, rfl, hR.n.row⟩).mono ?_
        rintro e w1 ⟨rfl, hb1⟩
        have R1 := hR.mono hb1
        have HRM := Lib.hid hR.n.mag; have HI := Lib.hid hI; have HG' := Lib.hid hG
        clear hR hb1 j0 hI hG
        by_cases hn : n = 0
        · subst hn
          have hG2 := HG'.out
          rw [bezRun_zero] at hG2
          have hg0 := HI.out.g0
          have hgB := HI.out.gB
          have hdv : (y.natAbs : Int).fdiv g ≠ 0 := by
            intro h0
            have h1 := fmod_natAbs_lt (y.natAbs : Int) g (by omega)
            have h2 := step_fmod (y.natAbs : Int) g
            rw [h0] at h2
            omega
          have hs : (limbs g.natAbs).length ≤ 1000 ∧ (limbs x'.natAbs).length ≤ 1000 ∧ (limbs ((y.natAbs : Int).fdiv g).natAbs).length ≤ 1000 ∧ (limbs (x'.fmod ((y.natAbs : Int).fdiv g)).natAbs).length ≤ 1000 := by
            have h := HI.out
            have hB := HLY.out
            have h1 := fdiv_le (y.natAbs : Int) g (by omega)
            have h2 := fmod_natAbs_lt x' ((y.natAbs : Int).fdiv g) hdv
            simp only [Int.natAbs_natCast] at h1
            exact ⟨limbs_small_int h.gB hB, limbs_small_int h.xB hB, limbs_small_int h1 hB, limbs_small_int (Nat.le_trans (Nat.le_of_lt h2) h1) hB⟩
          have C1 : ∀ W : World, Below w.heap.size w W → Calls Tryz.prog 137 #[.agg #[.slice ap (lenZ y) d]] W fun e w' => ∃ v', e = .returned v' ∧ IntAt w' v' (y.natAbs : Int) ∧ Below W.heap.size W w' := KP.out
          have C2 : ∀ (W : World) (v1 v2 : Value), IntAt W v1 (y.natAbs : Int) → IntAt W v2 g → Calls Tryz.prog 123 #[v1, v2] W fun e w' => ∃ v', e = .returned v' ∧ IntAt w' v' ((y.natAbs : Int).fdiv g) ∧ Below W.heap.size W w' := fun W v1 v2 h1 h2 => quotientZ _ g v1 v2 W h1 h2 (by have := HLY.out; simp only [Int.natAbs_natCast]; omega) (by omega) (by omega)
          have C3 : ∀ (W : World) (v1 v2 : Value), IntAt W v1 x' → IntAt W v2 ((y.natAbs : Int).fdiv g) → Calls Tryz.prog 125 #[v1, v2] W fun e w' => ∃ v', e = .returned v' ∧ IntAt w' v' (x'.fmod ((y.natAbs : Int).fdiv g)) ∧ Below W.heap.size W w' := fun W v1 v2 h1 h2 => remainderZ x' _ v1 v2 W h1 h2 (by omega) (by omega) hdv
          generalize hX : x'.fmod ((y.natAbs : Int).fdiv g) = X at *
          have C4 : ∀ (W : World) (v1 v2 : Value), IntAt W v1 x → IntAt W v2 X → Calls Tryz.prog 120 #[v1, v2] W fun e w' => ∃ v', e = .returned v' ∧ IntAt w' v' (x * X) ∧ Below W.heap.size W w' := fun W v1 v2 h1 h2 => productZ x X v1 v2 W h1 h2 (by have := HLX.out; omega) (by omega)
          have hm1 : (limbs (x * X).natAbs).length ≤ 2000 := limbs_mul' (j := 1000) (k := 1000) HLX.out (by omega)
          have C5 : ∀ (W : World) (v1 v2 : Value), IntAt W v1 g → IntAt W v2 (x * X) → Calls Tryz.prog 114 #[v1, v2] W fun e w' => ∃ v', e = .returned v' ∧ IntAt w' v' (g - x * X) ∧ Below W.heap.size W w' := fun W v1 v2 h1 h2 => differenceZ g (x * X) v1 v2 W h1 h2 (by omega) (by omega)
          have hm2 : (limbs (g - x * X).natAbs).length ≤ 2001 := limbs_sub' (by omega) hm1
          have C6 : ∀ (W : World) (v1 v2 : Value), IntAt W v1 (g - x * X) → IntAt W v2 y → Calls Tryz.prog 123 #[v1, v2] W fun e w' => ∃ v', e = .returned v' ∧ IntAt w' v' ((g - x * X).fdiv y) ∧ Below W.heap.size W w' := fun W v1 v2 h1 h2 => quotientZ _ y v1 v2 W h1 h2 (by omega) (by have := HLY.out; omega) HY.out
          generalize hY : (g - x * X).fdiv y = Y at *
          have hfin : G.1 = g ∧ G.2.fmod ((y.natAbs : Int).fdiv G.1) = X ∧ (G.1 - x * G.2.fmod ((y.natAbs : Int).fdiv G.1)).fdiv y = Y := by
            rw [← hG2]
            exact ⟨rfl, hX, by rw [hX]; exact hY⟩
          have HFIN := Lib.hid hfin; clear hfin
          generalize g - x * X = e2 at *
          generalize x * X = e1 at *
          generalize (y.natAbs : Int).fdiv g = q2 at *
          have D1 := Lib.hid C1; have D2 := Lib.hid C2; have D3 := Lib.hid C3; have D4 := Lib.hid C4; have D5 := Lib.hid C5; have D6 := Lib.hid C6; have HG2 := Lib.hid hG2
          clear C1 C2 C3 C4 C5 C6 hG2 hg0 hgB hdv hs hm1 hm2 HI HG' HRM hX hY
          have hB := R1.o
          clear R1
          have j0 := hB.b.c1; have j1 := hB.g.c0; have j2 := hB.g.c1; have j3 := hB.x.c0; have j4 := hB.x.c1
          rw [show decide (Int.natAbs 0 = 0) = true from rfl]
          go_upto_region 9 with fail
          go_cut [] from 47 (fun wx => ∃ a2 c2, B5 w wx x y g X ao c ap d ag cg a2 c2)
          case first =>
            have A0 := hB.mono ((Below.refl _ _).drew)
            clear hB j0 j1 j2 j3 j4
            have j0 := A0.b.c1; have j1 := A0.g.c0; have j2 := A0.g.c1; have j3 := A0.x.c0; have j4 := A0.x.c1
            refine wp_region_late (S := fun w' => w'.cell? ⟨w.heap.size + 1, 1, none⟩ = some (.slice ap (lenZ y) d) ∧ w'.cell? ⟨w.heap.size + 1 + 1, 0, none⟩ = some (.bool (sgn g)) ∧ w'.cell? ⟨w.heap.size + 1 + 1, 1, none⟩ = some (.slice ag (lenZ g) cg) ∧ w'.cell? ⟨w.heap.size + 1 + 1 + 1, 0, none⟩ = some (.bool (sgn x')) ∧ w'.cell? ⟨w.heap.size + 1 + 1 + 1, 1, none⟩ = some (.slice ax (lenZ x') cx)) (late := fun i => decide (7 ≤ i)) (by kernel_rfl) ?_
            refine late_take (fun j => decide (7 ≤ j)) (i := 0) (oi := { dst := some 47, op := Op.load 95 (Operand.tmp 5), type := 95, pos := "number.go:141", after := #[], guard := none }) (v := .agg #[.bool (sgn x'), .slice ax (lenZ x') cx]) rfl (by kernel_rfl) (by kernel_rfl) (by kernel_rfl) (by kernel_rfl) (fun _ _ _ h => h) (Or.inl ⟨by rfl, fun w' hSw => by obtain ⟨u0, u1, u2, u3, u4⟩ := hSw; go_simp⟩) ⟨A0.b.c1, A0.g.c0, A0.g.c1, A0.x.c0, A0.x.c1⟩ ?_
            (try simp only [Act.put, List.setIfInBounds_toArray, List.set_cons_zero, List.set_cons_succ])
            refine late_take (fun j => decide (7 ≤ j)) (i := 1) (oi := { dst := some 48, op := Op.fieldAddr 95 (Operand.tmp 3) 1, type := 0, pos := "number.go:141", after := #[], guard := none }) (v := .pointer (some ⟨w.heap.size + 1, 1, none⟩)) rfl (by kernel_rfl) (by kernel_rfl) (by kernel_rfl) (by kernel_rfl) (fun _ _ _ h => h) (Or.inl ⟨by rfl, fun w' hSw => by obtain ⟨u0, u1, u2, u3, u4⟩ := hSw; go_simp⟩) ⟨A0.b.c1, A0.g.c0, A0.g.c1, A0.x.c0, A0.x.c1⟩ ?_
            (try simp only [Act.put, List.setIfInBounds_toArray, List.set_cons_zero, List.set_cons_succ])
            refine late_take (fun j => decide (7 ≤ j)) (i := 2) (oi := { dst := some 49, op := Op.load 93 (Operand.tmp 48), type := 93, pos := "number.go:141", after := #[{ on := 1, ground := Ground.data }], guard := none }) (v := .agg #[.slice ap (lenZ y) d]) rfl (by kernel_rfl) (by kernel_rfl) (by kernel_rfl) (by kernel_rfl) (fun _ _ _ h => h) (Or.inl ⟨by rfl, fun w' hSw => by obtain ⟨u0, u1, u2, u3, u4⟩ := hSw; go_simp⟩) ⟨A0.b.c1, A0.g.c0, A0.g.c1, A0.x.c0, A0.x.c1⟩ ?_
            (try simp only [Act.put, List.setIfInBounds_toArray, List.set_cons_zero, List.set_cons_succ])
            refine late_take (fun j => decide (7 ≤ j)) (i := 4) (oi := { dst := some 51, op := Op.load 95 (Operand.tmp 4), type := 95, pos := "number.go:141", after := #[], guard := none }) (v := .agg #[.bool (sgn g), .slice ag (lenZ g) cg]) rfl (by kernel_rfl) (by kernel_rfl) (by kernel_rfl) (by kernel_rfl) (fun _ _ _ h => h) (Or.inl ⟨by rfl, fun w' hSw => by obtain ⟨u0, u1, u2, u3, u4⟩ := hSw; go_simp⟩) ⟨A0.b.c1, A0.g.c0, A0.g.c1, A0.x.c0, A0.x.c1⟩ ?_
            (try simp only [Act.put, List.setIfInBounds_toArray, List.set_cons_zero, List.set_cons_succ])
            refine late_one (i := 3) (oi := { dst := some 50, op := Op.call { callee := Callee.value (Operand.func 137), args := #[Operand.tmp 49], argTypes := #[93] }, type := 95, pos := "number.go:141", after := #[{ on := 2, ground := Ground.data }], guard := none }) rfl (by kernel_rfl) (fun K hK => ?_)
            rw [if_pos (by rfl)]
            go_simp
            go_at_call 137
            refine (D1.out _ A0.below).mono ?_
            rintro e w3 ⟨v3, rfl, hv3, hb3⟩
            have A3 := A0.mono hb3
            refine hK.out _ _ (fun _ => ⟨A3.b.c1, A3.g.c0, A3.g.c1, A3.x.c0, A3.x.c1⟩) ?_
            (try simp only [Act.put, List.setIfInBounds_toArray, List.set_cons_zero, List.set_cons_succ])
            clear hK
            refine late_one (i := 5) (oi := { dst := some 52, op := Op.call { callee := Callee.value (Operand.func 123), args := #[Operand.tmp 50, Operand.tmp 51], argTypes := #[95, 95] }, type := 95, pos := "number.go:141", after := #[{ on := 3, ground := Ground.data }, { on := 4, ground := Ground.data }, { on := 3, ground := Ground.chain }], guard := none }) rfl (by kernel_rfl) (fun K hK => ?_)
            rw [if_pos (by rfl)]
            go_simp
            go_at_call 123
            refine (D2.out _ _ _ hv3 A3.g.int).mono ?_
            rintro e w4 ⟨v4, rfl, hv4, hb4⟩
            have A4 := A3.mono hb4
            refine hK.out _ _ (fun _ => ⟨A4.b.c1, A4.g.c0, A4.g.c1, A4.x.c0, A4.x.c1⟩) ?_
            (try simp only [Act.put, List.setIfInBounds_toArray, List.set_cons_zero, List.set_cons_succ])
            clear hK
            refine late_one (i := 6) (oi := { dst := some 53, op := Op.call { callee := Callee.value (Operand.func 125), args := #[Operand.tmp 47, Operand.tmp 52], argTypes := #[95, 95] }, type := 95, pos := "number.go:141", after := #[{ on := 0, ground := Ground.data }, { on := 5, ground := Ground.data }, { on := 5, ground := Ground.chain }], guard := none }) rfl (by kernel_rfl) (fun K hK => ?_)
            rw [if_pos (by rfl)]
            go_simp
            go_at_call 125
            refine (D3.out _ _ _ A4.x.int hv4).mono ?_
            rintro e w5 ⟨v5, rfl, hv5, hb5⟩
            have A5 := A4.mono hb5
            obtain ⟨a5, c5, rfl, hr5⟩ := hv5.open
            refine hK.out _ _ (fun _ => ⟨A5.b.c1, A5.g.c0, A5.g.c1, A5.x.c0, A5.x.c1⟩) ?_
            (try simp only [Act.put, List.setIfInBounds_toArray, List.set_cons_zero, List.set_cons_succ])
            clear hK
            have k5 := A5.x.c0; have k6 := A5.x.c1; have k7 := A5.x.f0; have k8 := A5.x.f1
            refine late_one (i := 7) (oi := { dst := none, op := Op.store 95 (Operand.tmp 5) (Operand.tmp 53), type := 0, pos := "number.go:141", after := #[{ on := 6, ground := Ground.data }, { on := 6, ground := Ground.chain }, { on := 0, ground := Ground.phase }, { on := 1, ground := Ground.phase }, { on := 2, ground := Ground.phase }, { on := 3, ground := Ground.phase }, { on := 4, ground := Ground.phase }, { on := 5, ground := Ground.phase }, { on := 6, ground := Ground.phase }], guard := none }) rfl (by kernel_rfl) (fun K hK => ?_)
            rw [if_pos (by rfl)]
            go_simp
            refine hK.out _ _ (fun h => by cases h) ?_
            (try simp only [Act.put, List.setIfInBounds_toArray, List.set_cons_zero, List.set_cons_succ])
            clear hK k5 k6 k7 k8
            refine late_done (by kernel_rfl) ?_ _
            have HF := Lib.hid (A5.setX hr5)
            clear A0 A3 A4 A5 hr5
            go_wp2_with fail
            go_meet
            case rel => exact ⟨a5, c5, HF.out⟩
          case rest =>
            obtain ⟨a2, c2, hC⟩ := hcut
            clear hB j0 j1 j2 j3 j4
            go_upto_region 10 with fail
            go_cut [] from 47 (fun wx => ∃ a3 c3, CV wx (w.heap.size + 1 + 1) g ag cg ∧ CV wx (w.heap.size + 1 + 1 + 1) X a2 c2 ∧ CV wx (w.heap.size + 1 + 1 + 1 + 1) Y a3 c3 ∧ Below w.heap.size w wx)
            case first =>
              have A0 := hC.mono ((Below.refl _ _).drew)
              clear hC
              have j0 := A0.a.c0
              go_region_held3 (fun w' => w'.cell? ⟨w.heap.size, 0, none⟩ = some (.bool (sgn x)) ∧ w'.cell? ⟨w.heap.size, 1, none⟩ = some (.slice ao (lenZ x) c) ∧ w'.cell? ⟨w.heap.size + 1, 0, none⟩ = some (.bool (sgn y)) ∧ w'.cell? ⟨w.heap.size + 1, 1, none⟩ = some (.slice ap (lenZ y) d) ∧ w'.cell? ⟨w.heap.size + 1 + 1, 0, none⟩ = some (.bool (sgn g)) ∧ w'.cell? ⟨w.heap.size + 1 + 1, 1, none⟩ = some (.slice ag (lenZ g) cg) ∧ w'.cell? ⟨w.heap.size + 1 + 1 + 1, 0, none⟩ = some (.bool (sgn X)) ∧ w'.cell? ⟨w.heap.size + 1 + 1 + 1, 1, none⟩ = some (.slice a2 (lenZ X) c2)) (first | (with_reducible exact A0.keep8) | (with_reducible exact A3.keep8) | (with_reducible exact A4.keep8) | (with_reducible exact A5.keep8) | (with_reducible exact A5.keep8S _ _) | fail) (first
                | (go_at_call 120; refine (D4.out _ _ _ A0.a.int A0.x.int).mono ?_; rintro e w3 ⟨v3, rfl, hv3, hb3⟩; have A3 := A0.mono hb3)
                | (go_at_call 114; refine (D5.out _ _ _ A3.g.int hv3).mono ?_; rintro e w4 ⟨v4, rfl, hv4, hb4⟩; have A4 := A3.mono hb4)
                | (go_at_call 123; refine (D6.out _ _ _ hv4 A4.b.int).mono ?_; rintro e w5 ⟨v5, rfl, hv5, hb5⟩; have A5 := A4.mono hb5; obtain ⟨a5, c5, rfl, hr5⟩ := hv5.open; obtain ⟨k5, k6⟩ := A5.y.zero0; have k7 := A5.y.f0; have k8 := A5.y.f1))
              all_goals
                have HF := Lib.hid (And.intro (A5.g.other A5.y (by omega) (.bool (sgn Y)) (.slice a5 (lenZ Y) c5)) (And.intro (A5.x.other A5.y (by omega) (.bool (sgn Y)) (.slice a5 (lenZ Y) c5)) (And.intro (A5.y.put hr5) ((A5.below.setCell (p := ⟨w.heap.size + 1 + 1 + 1 + 1, 0, none⟩) (by simp; omega) (.bool (sgn Y))).setCell (p := ⟨w.heap.size + 1 + 1 + 1 + 1, 1, none⟩) (by simp; omega) (.slice a5 (lenZ Y) c5)))))
                clear A0 A3 A4 A5 hr5 j0
                go_wp2_with fail
                go_meet
                case rel => exact ⟨a5, c5, HF.out⟩
            case rest =>
              obtain ⟨a3, c3, V1, V2, V3, hBW⟩ := hcut
              clear hC
              have m0 := V1.c0; have m1 := V1.c1; have m2 := V1.f0; have m3 := V1.f1; have m4 := V2.c0; have m5 := V2.c1; have m6 := V2.f0; have m7 := V2.f1; have m8 := V3.c0; have m9 := V3.c1; have m10 := V3.f0; have m11 := V3.f1
              have U1 := V1.put V1.row; have U2 := V2.other V1 (by omega) (.bool (sgn g)) (.slice ag (lenZ g) cg); have U3 := V3.other V1 (by omega) (.bool (sgn g)) (.slice ag (lenZ g) cg)
              have T1 := U1.other U2 (by omega) (.bool (sgn X)) (.slice a2 (lenZ X) c2); have T2 := U2.put U2.row; have T3 := U3.other U2 (by omega) (.bool (sgn X)) (.slice a2 (lenZ X) c2)
              have Q1 := (T1.other T3 (by omega) (.bool (sgn Y)) (.slice a3 (lenZ Y) c3)).mono ((Below.refl _ _).drew); have Q2 := (T2.other T3 (by omega) (.bool (sgn Y)) (.slice a3 (lenZ Y) c3)).mono ((Below.refl _ _).drew); have Q3 := (T3.put T3.row).mono ((Below.refl _ _).drew)
              have hbF := ((((((hBW.setCell (p := ⟨w.heap.size + 1 + 1, 0, none⟩) (by simp; omega) (.bool (sgn g))).setCell (p := ⟨w.heap.size + 1 + 1, 1, none⟩) (by simp; omega) (.slice ag (lenZ g) cg)).setCell (p := ⟨w.heap.size + 1 + 1 + 1, 0, none⟩) (by simp; omega) (.bool (sgn X))).setCell (p := ⟨w.heap.size + 1 + 1 + 1, 1, none⟩) (by simp; omega) (.slice a2 (lenZ X) c2)).setCell (p := ⟨w.heap.size + 1 + 1 + 1 + 1, 0, none⟩) (by simp; omega) (.bool (sgn Y))).setCell (p := ⟨w.heap.size + 1 + 1 + 1 + 1, 1, none⟩) (by simp; omega) (.slice a3 (lenZ Y) c3)).drew
              have q0 := Q1.c0; have q1 := Q1.c1; have q2 := Q2.c0; have q3 := Q2.c1; have q4 := Q3.c0; have q5 := Q3.c1
              have I1 := Lib.hid Q1.int; have I2 := Lib.hid Q2.int; have I3 := Lib.hid Q3.int; have HBF := Lib.hid hbF
              clear Q1 Q2 Q3 T1 T2 T3 U1 U2 U3 V1 V2 V3 hbF hBW
              go_upto_region 11 with fail
              go_region
              clear m0 m1 m2 m3 m4 m5 m6 m7 m8 m9 m10 m11
              go_wp2
              refine bodyPost_ret (v := .tuple #[.agg #[.bool (sgn g), .slice ag (lenZ g) cg], .agg #[.bool (sgn X), .slice a2 (lenZ X) c2], .agg #[.bool (sgn Y), .slice a3 (lenZ Y) c3]]) (by simp [results, Tryz.results91, go_sem, q0, q1, q2, q3, q4, q5]) rfl ?_
              rw [HFIN.out.2.2, HFIN.out.2.1, HFIN.out.1]
              exact ⟨_, _, _, rfl, I1.out, I2.out, I3.out, HBF.out⟩
        · rw [show decide (n.natAbs = 0) = false by simp [hn]]
          have HN := Lib.hid hn; clear hn
          have hs : (limbs g.natAbs).length ≤ 1000 ∧ (limbs n.natAbs).length ≤ 1000 ∧ (limbs x'.natAbs).length ≤ 1000 ∧ (limbs f.natAbs).length ≤ 1000 ∧ (limbs (g.fdiv n).natAbs).length ≤ 1000 := by
            have h := HI.out
            have hB := HLY.out
            exact ⟨limbs_small_int h.gB hB, limbs_small_int h.nB hB, limbs_small_int h.xB hB, limbs_small_int h.fB hB, limbs_small_int (Nat.le_trans (fdiv_le g n HN.out) h.gB) hB⟩
          have HS := Lib.hid hs; clear hs
          have j0 := R1.o.g.c0; have j1 := R1.o.g.c1; have j2 := R1.n.c0; have j3 := R1.n.c1
          go_upto_region 6 with fail
          go_cut [9] from 28 to 46 (fun s9 wx => ∃ pt at2 ct, s9 = .pointer (some ⟨pt, 0, none⟩) ∧ BZ w wx pn pf x y g x' n f ao c ap d ag cg ax cx an cn af cf ∧ CV wx pt (g.fdiv n) at2 ct ∧ pf < pt)
          case first =>
            go_wp2_with fail
            refine (quotientZ g n _ _ w1 R1.o.g.int R1.n.int (by have := HS.out; omega) (by have := HS.out; omega) HN.out).mono ?_
            rintro e w2 ⟨v2, rfl, hv2, hb2⟩
            obtain ⟨a2, c2, rfl, hr2⟩ := hv2.open
            have R2 := R1.mono hb2
            clear R1 hb2 hv2 j0 j1 j2 j3
            have HH := Lib.hid (And.intro R2 hr2); clear R2 hr2
            go_wp2_with fail
            go_meet
            case rel => exact ⟨_, a2, c2, rfl, HH.out.1.mono (nb1 _ _), CV.fresh rfl HH.out.2, HH.out.1.f.lt⟩
          case rest =>
            obtain ⟨pt, at2, ct, rfl, hR2, hT, hpt⟩ := hcut
            clear R1 j0 j1 j2 j3
            have NG1 : w.heap.size + 1 + 1 ≠ pt := by have := hR2.hp; have := hR2.hq; omega
            have NG2 : pn ≠ pt := by have := hR2.hq; omega
            have NX1 : w.heap.size + 1 + 1 + 1 ≠ pt := by have := hR2.hp; have := hR2.hq; omega
            have NX2 : pf ≠ pt := by omega
            generalize hq : g.fdiv n = q at *
            have HQ := Lib.hid hq; clear hq
            go_wp2_with fail
            go_upto_region 7 with fail
            go_cut [] from 28 to 46 (fun wx => ∃ a2 c2, BZ w wx pn pf x y n x' (g - q * n) f ao c ap d an cn ax cx a2 c2 af cf ∧ CV wx pt q at2 ct)
            case first =>
              have A0 := hR2.mono ((Below.refl _ _).drew)
              have T0 := hT.mono ((Below.refl _ _).drew)
              have j0 := A0.o.g.c0; have j1 := A0.o.g.c1; have j2 := A0.n.c0; have j3 := A0.n.c1; have j4 := T0.c0; have j5 := T0.c1
              have CP : ∀ (W : World) (v1 v2 : Value), IntAt W v1 q → IntAt W v2 n → Calls Tryz.prog 120 #[v1, v2] W fun e w' => ∃ v', e = .returned v' ∧ IntAt w' v' (q * n) ∧ Below W.heap.size W w' := fun W v1 v2 h1 h2 => productZ q n v1 v2 W h1 h2 (by have := HS.out; omega) (by have := HS.out; omega)
              have CD : ∀ (W : World) (v1 v2 : Value), IntAt W v1 g → IntAt W v2 (q * n) → Calls Tryz.prog 114 #[v1, v2] W fun e w' => ∃ v', e = .returned v' ∧ IntAt w' v' (g - q * n) ∧ Below W.heap.size W w' := fun W v1 v2 h1 h2 => differenceZ g (q * n) v1 v2 W h1 h2 (by have := HS.out; omega) (by have := HS.out; have := limbs_mul' (a := q) (b := n) (j := 1000) (k := 1000) (by omega) (by omega); omega)
              generalize g - q * n = z at *
              generalize q * n = m at *
              have KCP := Lib.hid CP; have KCD := Lib.hid CD; clear CP CD
              refine wp_region_late (S := fun w' => w'.cell? ⟨pn, 0, none⟩ = some (.bool (sgn n)) ∧ w'.cell? ⟨pn, 1, none⟩ = some (.slice an (lenZ n) cn) ∧ w'.cell? ⟨w.heap.size + 1 + 1, 0, none⟩ = some (.bool (sgn g)) ∧ w'.cell? ⟨w.heap.size + 1 + 1, 1, none⟩ = some (.slice ag (lenZ g) cg) ∧ w'.cell? ⟨pt, 0, none⟩ = some (.bool (sgn q)) ∧ w'.cell? ⟨pt, 1, none⟩ = some (.slice at2 (lenZ q) ct)) (late := fun i => decide (6 ≤ i)) (by kernel_rfl) ?_
              refine late_take (fun j => decide (6 ≤ j)) (i := 0) (oi := { dst := some 35, op := Op.load 95 (Operand.tmp 7), type := 95, pos := "number.go:138", after := #[], guard := none }) (v := .agg #[.bool (sgn n), .slice an (lenZ n) cn]) rfl (by kernel_rfl) (by kernel_rfl) (by kernel_rfl) (by kernel_rfl) (fun _ _ _ h => h) (Or.inl ⟨by rfl, fun w' hSw => by obtain ⟨u0, u1, u2, u3, u4, u5⟩ := hSw; go_simp⟩) ⟨A0.n.c0, A0.n.c1, A0.o.g.c0, A0.o.g.c1, T0.c0, T0.c1⟩ ?_
              (try simp only [Act.put, List.setIfInBounds_toArray, List.set_cons_zero, List.set_cons_succ])
              refine late_take (fun j => decide (5 ≤ j)) (i := 1) (oi := { dst := some 36, op := Op.load 95 (Operand.tmp 4), type := 95, pos := "number.go:138", after := #[], guard := none }) (v := .agg #[.bool (sgn g), .slice ag (lenZ g) cg]) rfl (by kernel_rfl) (by kernel_rfl) (by kernel_rfl) (by kernel_rfl) (fun _ _ _ h => h) (Or.inl ⟨by rfl, fun w' hSw => by obtain ⟨u0, u1, u2, u3, u4, u5⟩ := hSw; go_simp⟩) ⟨A0.n.c0, A0.n.c1, A0.o.g.c0, A0.o.g.c1, T0.c0, T0.c1⟩ ?_
              (try simp only [Act.put, List.setIfInBounds_toArray, List.set_cons_zero, List.set_cons_succ])
              refine late_take (fun j => decide (4 ≤ j)) (i := 2) (oi := { dst := some 37, op := Op.load 95 (Operand.tmp 9), type := 95, pos := "number.go:138", after := #[], guard := none }) (v := .agg #[.bool (sgn q), .slice at2 (lenZ q) ct]) rfl (by kernel_rfl) (by kernel_rfl) (by kernel_rfl) (by kernel_rfl) (fun _ _ _ h => h) (Or.inl ⟨by rfl, fun w' hSw => by obtain ⟨u0, u1, u2, u3, u4, u5⟩ := hSw; go_simp⟩) ⟨A0.n.c0, A0.n.c1, A0.o.g.c0, A0.o.g.c1, T0.c0, T0.c1⟩ ?_
              (try simp only [Act.put, List.setIfInBounds_toArray, List.set_cons_zero, List.set_cons_succ])
              refine late_take (fun j => decide (4 ≤ j)) (i := 3) (oi := { dst := some 38, op := Op.load 95 (Operand.tmp 7), type := 95, pos := "number.go:138", after := #[], guard := none }) (v := .agg #[.bool (sgn n), .slice an (lenZ n) cn]) rfl (by kernel_rfl) (by kernel_rfl) (by kernel_rfl) (by kernel_rfl) (fun _ _ _ h => h) (Or.inl ⟨by rfl, fun w' hSw => by obtain ⟨u0, u1, u2, u3, u4, u5⟩ := hSw; go_simp⟩) ⟨A0.n.c0, A0.n.c1, A0.o.g.c0, A0.o.g.c1, T0.c0, T0.c1⟩ ?_
              (try simp only [Act.put, List.setIfInBounds_toArray, List.set_cons_zero, List.set_cons_succ])
              refine late_one (i := 4) (oi := { dst := some 39, op := Op.call { callee := Callee.value (Operand.func 120), args := #[Operand.tmp 37, Operand.tmp 38], argTypes := #[95, 95] }, type := 95, pos := "number.go:138", after := #[{ on := 2, ground := Ground.data }, { on := 3, ground := Ground.data }], guard := none }) rfl (by kernel_rfl) (fun K hK => ?_)
              rw [if_pos (by rfl)]
              go_simp
              go_at_call 120
              refine (KCP.out _ _ _ T0.int A0.n.int).mono ?_
              rintro e w3 ⟨v3, rfl, hv3, hb3⟩
              have A3 := A0.mono hb3
              have T3 := T0.mono hb3
              refine hK.out _ _ (fun _ => ⟨A3.n.c0, A3.n.c1, A3.o.g.c0, A3.o.g.c1, T3.c0, T3.c1⟩) ?_
              (try simp only [Act.put, List.setIfInBounds_toArray, List.set_cons_zero, List.set_cons_succ])
              clear hK
              refine late_one (i := 5) (oi := { dst := some 40, op := Op.call { callee := Callee.value (Operand.func 114), args := #[Operand.tmp 36, Operand.tmp 39], argTypes := #[95, 95] }, type := 95, pos := "number.go:138", after := #[{ on := 1, ground := Ground.data }, { on := 4, ground := Ground.data }, { on := 4, ground := Ground.chain }], guard := none }) rfl (by kernel_rfl) (fun K hK => ?_)
              rw [if_pos (by rfl)]
              go_simp
              go_at_call 114
              refine (KCD.out _ _ _ A3.o.g.int hv3).mono ?_
              rintro e w4 ⟨v4, rfl, hv4, hb4⟩
              have A4 := A3.mono hb4
              have T4 := T3.mono hb4
              obtain ⟨a4, c4, rfl, hr4⟩ := hv4.open
              refine hK.out _ _ (fun _ => ⟨A4.n.c0, A4.n.c1, A4.o.g.c0, A4.o.g.c1, T4.c0, T4.c1⟩) ?_
              (try simp only [Act.put, List.setIfInBounds_toArray, List.set_cons_zero, List.set_cons_succ])
              clear hK
              have A5 := A4.setG A4.n.row
              have hr5 := A4.o.g.rowput hr4 (.bool (sgn n)) (.slice an (lenZ n) cn)
              have F := A5.setN hr5
              have FT := (T4.other A4.o.g NG1 (.bool (sgn n)) (.slice an (lenZ n) cn)).other A5.n NG2 (.bool (sgn z)) (.slice a4 (lenZ z) c4)
              have HF := Lib.hid (And.intro F FT)
              have l0 := A4.o.g.c0; have l1 := A4.o.g.c1; have l4 := A4.o.g.f0; have l5 := A4.o.g.f1; have m0 := A5.n.c0; have m1 := A5.n.c1; have m2 := A5.n.f0; have m3 := A5.n.f1
              clear F FT A5 hr5 T4 A4 A3 T3 A0 T0
              refine late_one (i := 6) (oi := { dst := none, op := Op.store 95 (Operand.tmp 4) (Operand.tmp 35), type := 0, pos := "number.go:138", after := #[{ on := 0, ground := Ground.data }, { on := 5, ground := Ground.chain }, { on := 0, ground := Ground.phase }, { on := 1, ground := Ground.phase }, { on := 2, ground := Ground.textOnly Departure.lateStores }, { on := 3, ground := Ground.textOnly Departure.lateStores }, { on := 4, ground := Ground.textOnly Departure.lateStoresUnsure }, { on := 5, ground := Ground.textOnly Departure.lateStoresUnsure }], guard := none }) rfl (by kernel_rfl) (fun K hK => ?_)
              rw [if_pos (by rfl)]
              go_simp
              refine hK.out _ _ (fun h => by cases h) ?_
              (try simp only [Act.put, List.setIfInBounds_toArray, List.set_cons_zero, List.set_cons_succ])
              clear hK l0 l1 l4 l5
              refine late_one (i := 7) (oi := { dst := none, op := Op.store 95 (Operand.tmp 7) (Operand.tmp 40), type := 0, pos := "number.go:138", after := #[{ on := 5, ground := Ground.data }, { on := 6, ground := Ground.chain }, { on := 0, ground := Ground.phase }, { on := 1, ground := Ground.phase }, { on := 2, ground := Ground.phase }, { on := 3, ground := Ground.phase }, { on := 4, ground := Ground.phase }, { on := 5, ground := Ground.phase }, { on := 6, ground := Ground.phase }], guard := none }) rfl (by kernel_rfl) (fun K hK => ?_)
              rw [if_pos (by rfl)]
              go_simp
              refine hK.out _ _ (fun h => by cases h) ?_
              (try simp only [Act.put, List.setIfInBounds_toArray, List.set_cons_zero, List.set_cons_succ])
              clear hK m0 m1 m2 m3
              refine late_done (by kernel_rfl) ?_ _
              go_wp2_with fail
              go_meet
              case rel => exact ⟨a4, c4, HF.out⟩
            case rest =>
              obtain ⟨a2, c2, hR3, hT3⟩ := hcut
              clear hR2 hT
              have hz1 : g - q * n = g.fmod n := by rw [← HQ.out]; exact step_fmod g n
              generalize g - q * n = z1 at *
              have HZ1 := Lib.hid hz1; clear hz1
              go_wp2_with fail
              go_upto_region 8 with fail
              have A0 := hR3.mono ((Below.refl _ _).drew)
              have T0 := hT3.mono ((Below.refl _ _).drew)
              have j0 := A0.o.x.c0; have j1 := A0.o.x.c1; have j2 := A0.f.c0; have j3 := A0.f.c1; have j4 := T0.c0; have j5 := T0.c1
              have CP : ∀ (W : World) (v1 v2 : Value), IntAt W v1 q → IntAt W v2 f → Calls Tryz.prog 120 #[v1, v2] W fun e w' => ∃ v', e = .returned v' ∧ IntAt w' v' (q * f) ∧ Below W.heap.size W w' := fun W v1 v2 h1 h2 => productZ q f v1 v2 W h1 h2 (by have := HS.out; omega) (by have := HS.out; omega)
              have CD : ∀ (W : World) (v1 v2 : Value), IntAt W v1 x' → IntAt W v2 (q * f) → Calls Tryz.prog 114 #[v1, v2] W fun e w' => ∃ v', e = .returned v' ∧ IntAt w' v' (x' - q * f) ∧ Below W.heap.size W w' := fun W v1 v2 h1 h2 => differenceZ x' (q * f) v1 v2 W h1 h2 (by have := HS.out; omega) (by have := HS.out; have := limbs_mul' (a := q) (b := f) (j := 1000) (k := 1000) (by omega) (by omega); omega)
              generalize hmm : q * f = m at *
              generalize hz : x' - m = z at *
              have HZ := Lib.hid hz; have HMM := Lib.hid hmm; clear hz hmm
              have KCP := Lib.hid CP; have KCD := Lib.hid CD; clear CP CD
              refine wp_region_late (S := fun w' => w'.cell? ⟨pf, 0, none⟩ = some (.bool (sgn f)) ∧ w'.cell? ⟨pf, 1, none⟩ = some (.slice af (lenZ f) cf) ∧ w'.cell? ⟨w.heap.size + 1 + 1 + 1, 0, none⟩ = some (.bool (sgn x')) ∧ w'.cell? ⟨w.heap.size + 1 + 1 + 1, 1, none⟩ = some (.slice ax (lenZ x') cx) ∧ w'.cell? ⟨pt, 0, none⟩ = some (.bool (sgn q)) ∧ w'.cell? ⟨pt, 1, none⟩ = some (.slice at2 (lenZ q) ct)) (late := fun i => decide (6 ≤ i)) (by kernel_rfl) ?_
              refine late_take (fun j => decide (6 ≤ j)) (i := 0) (oi := { dst := some 41, op := Op.load 95 (Operand.tmp 8), type := 95, pos := "number.go:139", after := #[], guard := none }) (v := .agg #[.bool (sgn f), .slice af (lenZ f) cf]) rfl (by kernel_rfl) (by kernel_rfl) (by kernel_rfl) (by kernel_rfl) (fun _ _ _ h => h) (Or.inl ⟨by rfl, fun w' hSw => by obtain ⟨u0, u1, u2, u3, u4, u5⟩ := hSw; go_simp⟩) ⟨A0.f.c0, A0.f.c1, A0.o.x.c0, A0.o.x.c1, T0.c0, T0.c1⟩ ?_
              (try simp only [Act.put, List.setIfInBounds_toArray, List.set_cons_zero, List.set_cons_succ])
              refine late_take (fun j => decide (5 ≤ j)) (i := 1) (oi := { dst := some 42, op := Op.load 95 (Operand.tmp 5), type := 95, pos := "number.go:139", after := #[], guard := none }) (v := .agg #[.bool (sgn x'), .slice ax (lenZ x') cx]) rfl (by kernel_rfl) (by kernel_rfl) (by kernel_rfl) (by kernel_rfl) (fun _ _ _ h => h) (Or.inl ⟨by rfl, fun w' hSw => by obtain ⟨u0, u1, u2, u3, u4, u5⟩ := hSw; go_simp⟩) ⟨A0.f.c0, A0.f.c1, A0.o.x.c0, A0.o.x.c1, T0.c0, T0.c1⟩ ?_
              (try simp only [Act.put, List.setIfInBounds_toArray, List.set_cons_zero, List.set_cons_succ])
              refine late_take (fun j => decide (4 ≤ j)) (i := 2) (oi := { dst := some 43, op := Op.load 95 (Operand.tmp 9), type := 95, pos := "number.go:139", after := #[], guard := none }) (v := .agg #[.bool (sgn q), .slice at2 (lenZ q) ct]) rfl (by kernel_rfl) (by kernel_rfl) (by kernel_rfl) (by kernel_rfl) (fun _ _ _ h => h) (Or.inl ⟨by rfl, fun w' hSw => by obtain ⟨u0, u1, u2, u3, u4, u5⟩ := hSw; go_simp⟩) ⟨A0.f.c0, A0.f.c1, A0.o.x.c0, A0.o.x.c1, T0.c0, T0.c1⟩ ?_
              (try simp only [Act.put, List.setIfInBounds_toArray, List.set_cons_zero, List.set_cons_succ])
              refine late_take (fun j => decide (4 ≤ j)) (i := 3) (oi := { dst := some 44, op := Op.load 95 (Operand.tmp 8), type := 95, pos := "number.go:139", after := #[], guard := none }) (v := .agg #[.bool (sgn f), .slice af (lenZ f) cf]) rfl (by kernel_rfl) (by kernel_rfl) (by kernel_rfl) (by kernel_rfl) (fun _ _ _ h => h) (Or.inl ⟨by rfl, fun w' hSw => by obtain ⟨u0, u1, u2, u3, u4, u5⟩ := hSw; go_simp⟩) ⟨A0.f.c0, A0.f.c1, A0.o.x.c0, A0.o.x.c1, T0.c0, T0.c1⟩ ?_
              (try simp only [Act.put, List.setIfInBounds_toArray, List.set_cons_zero, List.set_cons_succ])
              refine late_one (i := 4) (oi := { dst := some 45, op := Op.call { callee := Callee.value (Operand.func 120), args := #[Operand.tmp 43, Operand.tmp 44], argTypes := #[95, 95] }, type := 95, pos := "number.go:139", after := #[{ on := 2, ground := Ground.data }, { on := 3, ground := Ground.data }], guard := none }) rfl (by kernel_rfl) (fun K hK => ?_)
              rw [if_pos (by rfl)]
              go_simp
              go_at_call 120
              refine (KCP.out _ _ _ T0.int A0.f.int).mono ?_
              rintro e w3 ⟨v3, rfl, hv3, hb3⟩
              have A3 := A0.mono hb3
              have T3 := T0.mono hb3
              refine hK.out _ _ (fun _ => ⟨A3.f.c0, A3.f.c1, A3.o.x.c0, A3.o.x.c1, T3.c0, T3.c1⟩) ?_
              (try simp only [Act.put, List.setIfInBounds_toArray, List.set_cons_zero, List.set_cons_succ])
              clear hK
              refine late_one (i := 5) (oi := { dst := some 46, op := Op.call { callee := Callee.value (Operand.func 114), args := #[Operand.tmp 42, Operand.tmp 45], argTypes := #[95, 95] }, type := 95, pos := "number.go:139", after := #[{ on := 1, ground := Ground.data }, { on := 4, ground := Ground.data }, { on := 4, ground := Ground.chain }], guard := none }) rfl (by kernel_rfl) (fun K hK => ?_)
              rw [if_pos (by rfl)]
              go_simp
              go_at_call 114
              refine (KCD.out _ _ _ A3.o.x.int hv3).mono ?_
              rintro e w4 ⟨v4, rfl, hv4, hb4⟩
              have A4 := A3.mono hb4
              have T4 := T3.mono hb4
              obtain ⟨a4, c4, rfl, hr4⟩ := hv4.open
              refine hK.out _ _ (fun _ => ⟨A4.f.c0, A4.f.c1, A4.o.x.c0, A4.o.x.c1, T4.c0, T4.c1⟩) ?_
              (try simp only [Act.put, List.setIfInBounds_toArray, List.set_cons_zero, List.set_cons_succ])
              clear hK
              have A5 := A4.setX A4.f.row
              have hr5 := A4.o.x.rowput hr4 (.bool (sgn f)) (.slice af (lenZ f) cf)
              have F := A5.setF hr5
              have FT := (T4.other A4.o.x NX1 (.bool (sgn f)) (.slice af (lenZ f) cf)).other A5.f NX2 (.bool (sgn z)) (.slice a4 (lenZ z) c4)
              have HF := Lib.hid (And.intro F FT)
              have l0 := A4.o.x.c0; have l1 := A4.o.x.c1; have l4 := A4.o.x.f0; have l5 := A4.o.x.f1; have m0 := A5.f.c0; have m1 := A5.f.c1; have m2 := A5.f.f0; have m3 := A5.f.f1
              clear F FT A5 hr5 T4 A4 A3 T3 A0 T0
              refine late_one (i := 6) (oi := { dst := none, op := Op.store 95 (Operand.tmp 5) (Operand.tmp 41), type := 0, pos := "number.go:139", after := #[{ on := 0, ground := Ground.data }, { on := 5, ground := Ground.chain }, { on := 0, ground := Ground.phase }, { on := 1, ground := Ground.phase }, { on := 2, ground := Ground.textOnly Departure.lateStores }, { on := 3, ground := Ground.textOnly Departure.lateStores }, { on := 4, ground := Ground.textOnly Departure.lateStoresUnsure }, { on := 5, ground := Ground.textOnly Departure.lateStoresUnsure }], guard := none }) rfl (by kernel_rfl) (fun K hK => ?_)
              rw [if_pos (by rfl)]
              go_simp
              refine hK.out _ _ (fun h => by cases h) ?_
              (try simp only [Act.put, List.setIfInBounds_toArray, List.set_cons_zero, List.set_cons_succ])
              clear hK l0 l1 l4 l5
              refine late_one (i := 7) (oi := { dst := none, op := Op.store 95 (Operand.tmp 8) (Operand.tmp 46), type := 0, pos := "number.go:139", after := #[{ on := 5, ground := Ground.data }, { on := 6, ground := Ground.chain }, { on := 0, ground := Ground.phase }, { on := 1, ground := Ground.phase }, { on := 2, ground := Ground.phase }, { on := 3, ground := Ground.phase }, { on := 4, ground := Ground.phase }, { on := 5, ground := Ground.phase }, { on := 6, ground := Ground.phase }], guard := none }) rfl (by kernel_rfl) (fun K hK => ?_)
              rw [if_pos (by rfl)]
              go_simp
              refine hK.out _ _ (fun h => by cases h) ?_
              (try simp only [Act.put, List.setIfInBounds_toArray, List.set_cons_zero, List.set_cons_succ])
              clear hK m0 m1 m2 m3
              refine late_done (by kernel_rfl) ?_ _
              obtain ⟨hR4, -⟩ := HF.out
              have hlt := fmod_natAbs_lt g n HN.out
              have hst := HI.out.step HN.out
              have hrun := bezRun_step g n x' f HN.out
              rw [HG'.out] at hrun
              rw [step_fmod, ← HZ1.out, HQ.out, HMM.out, HZ.out] at hst hrun
              have HST := Lib.hid hst; have HRUN := Lib.hid hrun; have HLT := Lib.hid hlt; have HR4 := Lib.hid hR4
              clear hst hrun hlt hR4 HF
              go_wp2_with fail
              go_roundw
              case rel => exact ⟨_, _, _, _, _, _, _, _, _, _, _, _, HR4.out, HST.out, HRUN.out.symm⟩
              case measure => rw [HR4.out.n.mag, HRM.out, HZ1.out]; exact HLT.out
end Go.Proofs.YtbadibbdoljjhaaGreatDoor

/-
  bigint: Bezout at canonical integers.
-/
namespace Go.Proofs.YtbadibbdoljjhaaGreatDoor
open Go Go.Proofs Go.RowKit

theorem bezout_any (x y : Int) (va vb : Value) (w : World) (ha : IntAt w va x) (hb : IntAt w vb y) (hlx : (limbs x.natAbs).length ≤ 1000) (hly : (limbs y.natAbs).length ≤ 1000) :
    Calls Tryz.prog 91 #[va, vb] w (BezRet (bezOf x y).1 (bezOf x y).2.1 (bezOf x y).2.2 w) := by
  by_cases hy : y = 0
  · subst hy
    exact bezout_zero x va vb w ha hb
  · exact bezout_pos x y va vb w ha hb hlx hly hy

theorem bezOf_limbs (x y : Int) (hlx : (limbs x.natAbs).length ≤ 1000) (hly : (limbs y.natAbs).length ≤ 1000) : (limbs (bezOf x y).1.natAbs).length ≤ 1000 ∧ (limbs (bezOf x y).2.1.natAbs).length ≤ 1000 ∧ (limbs (bezOf x y).2.2.natAbs).length ≤ 2001 := by
  by_cases hy : y = 0
  · subst hy
    unfold bezOf
    rw [if_pos rfl]
    refine ⟨by simpa using hlx, ?_, by simp [limbs_zero]⟩
    show (limbs (Int.sign x).natAbs).length ≤ 1000
    refine Nat.le_trans (limbs_length_le (k := 1) ?_) (by decide)
    rw [Int.natAbs_sign]
    split <;> decide
  · have hMod : (x.fmod (y.natAbs : Int)).natAbs < y.natAbs := by have := fmod_natAbs_lt x (y.natAbs : Int) (by omega); omega
    obtain ⟨h1, h2, h3⟩ := bezRun_inv y.natAbs _ _ _ _ _ (Nat.le_refl _) (BezInv.start y (x.fmod (y.natAbs : Int)) hy (fmod_nonneg _ _ (by omega)) (by omega))
    rw [bezOf_pos x y hy]
    generalize bezRun (y.natAbs : Int) (x.fmod (y.natAbs : Int)) 0 1 = G at *
    have hdv : (y.natAbs : Int).fdiv G.1 ≠ 0 := by
      intro h0
      have h1 := fmod_natAbs_lt (y.natAbs : Int) G.1 (by omega)
      have h2 := step_fmod (y.natAbs : Int) G.1
      rw [h0] at h2
      omega
    have k1 := fdiv_le (y.natAbs : Int) G.1 (by omega)
    have k2 := fmod_natAbs_lt G.2 ((y.natAbs : Int).fdiv G.1) hdv
    simp only [Int.natAbs_natCast] at k1
    have b1 := limbs_small_int h2 hly
    have b2 : (limbs (G.2.fmod ((y.natAbs : Int).fdiv G.1)).natAbs).length ≤ 1000 := limbs_small_int (Nat.le_trans (Nat.le_of_lt k2) k1) hly
    refine ⟨b1, b2, ?_⟩
    have b3 : (limbs (x * G.2.fmod ((y.natAbs : Int).fdiv G.1)).natAbs).length ≤ 2000 := limbs_mul' (j := 1000) (k := 1000) hlx b2
    have b4 : (limbs (G.1 - x * G.2.fmod ((y.natAbs : Int).fdiv G.1)).natAbs).length ≤ 2001 := limbs_sub' (Nat.le_trans b1 (by decide)) b3
    exact Nat.le_trans (limbs_length_mono (fdiv_le _ y hy)) b4

/-- What Bezout returns. -/
def bezV (r : Int × Int × Int) : Value := .tuple #[.string (str (Lib.itoa r.1)), .string (str (Lib.itoa r.2.1)), .string (str (Lib.itoa r.2.2)), .int .i64 0]

set_option maxHeartbeats 2000000 in
theorem bezoutZ (s t : ByteArray) (x y : Int) (w : World) (hs : Str s x) (ht : Str t y) (htab : Lib.TabIs Tryz.prog w "internal/strconv.uint64pow10" .u64 Lib.pow10Tab) :
    Calls Tryz.prog 23 #[.string s, .string t] w fun e w' => e = .returned (bezV (bezOf x y)) ∧ Below w.heap.size w w' := by
  have hsz := hs.size; have htz := ht.size; have hsl := hs.limbs; have htl := ht.limbs
  have CB := fun W => checkBoth_any s t W (by omega) (by omega)
  have hb : errBoth (bytes s) (bytes t) = 0 := by unfold errBoth; rw [if_pos hs.err, ht.err]
  rw [hb] at CB
  have PS := fun W => parseZ_any s x W hs.text (by omega)
  have PT := fun W => parseZ_any t y W ht.text (by omega)
  have BZ := fun W v1 v2 h1 h2 => bezout_any x y v1 v2 W h1 h2 (by omega) (by omega)
  obtain ⟨l1, l2, l3⟩ := bezOf_limbs x y (by omega) (by omega)
  generalize bezOf x y = r at *
  obtain ⟨g, X, Y⟩ := r
  dsimp only at l1 l2 l3 BZ
  have TX : ∀ (z : Int), (limbs z.natAbs).length ≤ 2001 → ∀ (W : World) (v : Value), Below w.heap.size w W → IntAt W v z → Calls Tryz.prog 93 #[v] W fun e w' => e = .returned (.string (str (Lib.itoa z))) ∧ Below W.heap.size W w' := fun z hz W v hW hv =>
    textZ_any z v W hv (by omega) ((Lib.tabBelow_of_tabIs htab).on hW).here
  have T1 := TX g (by omega); have T2 := TX X (by omega); have T3 := TX Y (by omega)
  have HCB := Lib.hid CB; have HPS := Lib.hid PS; have HPT := Lib.hid PT; have HBZ := Lib.hid BZ; have HT1 := Lib.hid T1; have HT2 := Lib.hid T2; have HT3 := Lib.hid T3
  clear CB PS PT BZ TX T1 T2 T3 hb htab hs ht hsz htz hsl htl l1 l2 l3
  unfold bezV
  dsimp only
  generalize str (Lib.itoa g) = r1 at *
  generalize str (Lib.itoa X) = r2 at *
  generalize str (Lib.itoa Y) = r3 at *
  go_enter Tryz.func23, Tryz.ntmps23
  go_wp2_with (go_at_call 90; refine (HCB.out _).mono ?_; rintro e w1 ⟨rfl, rfl⟩; refine Hid.out ?_)
  refine Lib.hid ?_
  go_wp2_with (go_at_call_of 92 s; refine (HPS.out _).mono ?_; rintro e w4 ⟨v4, rfl, hv4, hb4⟩; refine Hid.out ?_)
  refine Lib.hid ?_
  go_wp2_with (go_at_call_of 92 t; refine (HPT.out _).mono ?_; rintro e w5 ⟨v5, rfl, hv5, hb5⟩; refine Hid.out ?_)
  refine Lib.hid ?_
  go_wp2_with (go_at_call 91; refine (HBZ.out _ _ _ (hv4.mono hb5) hv5).mono ?_; rintro e w6 ⟨v1, v2, v3, rfl, h1, h2, h3, hb6⟩; refine Hid.out ?_)
  have hB6 := Below.chain (Below.chain hb4 hb5) hb6
  obtain ⟨a1, c1, rfl, e1⟩ := h1.open
  obtain ⟨a2, c2, rfl, e2⟩ := h2.open
  obtain ⟨a3, c3, rfl, e3⟩ := h3.open
  have HB6 := Lib.hid hB6
  have F : ∀ W : World, Below w6.heap.size w6 W → IntAt W (.agg #[.bool (sgn g), .slice a1 (lenZ g) c1]) g ∧ IntAt W (.agg #[.bool (sgn X), .slice a2 (lenZ X) c2]) X ∧ IntAt W (.agg #[.bool (sgn Y), .slice a3 (lenZ Y) c3]) Y := fun W hW => ⟨h1.mono hW, h2.mono hW, h3.mono hW⟩
  have HF := Lib.hid F
  clear hb4 hb5 hb6 hv4 hv5 h1 h2 h3 e1 e2 e3 hB6 F
  refine Lib.hid ?_
  go_wp2_with fail
  have B0 : Below w6.heap.size w6 (((w6.alloc (Obj.cells #[.bool (sgn g), .slice a1 (lenZ g) c1] 95)).alloc (Obj.cells #[.bool (sgn X), .slice a2 (lenZ X) c2] 95)).alloc (Obj.cells #[.bool (sgn Y), .slice a3 (lenZ Y) c3] 95)) := by go_grown
  have C0 : (((w6.alloc (Obj.cells #[.bool (sgn g), .slice a1 (lenZ g) c1] 95)).alloc (Obj.cells #[.bool (sgn X), .slice a2 (lenZ X) c2] 95)).alloc (Obj.cells #[.bool (sgn Y), .slice a3 (lenZ Y) c3] 95)).cell? ⟨w6.heap.size, 0, none⟩ = some (.bool (sgn g)) := by go_cell
  have C1 : (((w6.alloc (Obj.cells #[.bool (sgn g), .slice a1 (lenZ g) c1] 95)).alloc (Obj.cells #[.bool (sgn X), .slice a2 (lenZ X) c2] 95)).alloc (Obj.cells #[.bool (sgn Y), .slice a3 (lenZ Y) c3] 95)).cell? ⟨w6.heap.size, 1, none⟩ = some (.slice a1 (lenZ g) c1) := by go_cell
  have C2 : (((w6.alloc (Obj.cells #[.bool (sgn g), .slice a1 (lenZ g) c1] 95)).alloc (Obj.cells #[.bool (sgn X), .slice a2 (lenZ X) c2] 95)).alloc (Obj.cells #[.bool (sgn Y), .slice a3 (lenZ Y) c3] 95)).cell? ⟨w6.heap.size + 1, 0, none⟩ = some (.bool (sgn X)) := by go_cell
  have C3 : (((w6.alloc (Obj.cells #[.bool (sgn g), .slice a1 (lenZ g) c1] 95)).alloc (Obj.cells #[.bool (sgn X), .slice a2 (lenZ X) c2] 95)).alloc (Obj.cells #[.bool (sgn Y), .slice a3 (lenZ Y) c3] 95)).cell? ⟨w6.heap.size + 1, 1, none⟩ = some (.slice a2 (lenZ X) c2) := by go_cell
  have C4 : (((w6.alloc (Obj.cells #[.bool (sgn g), .slice a1 (lenZ g) c1] 95)).alloc (Obj.cells #[.bool (sgn X), .slice a2 (lenZ X) c2] 95)).alloc (Obj.cells #[.bool (sgn Y), .slice a3 (lenZ Y) c3] 95)).cell? ⟨w6.heap.size + 1 + 1, 0, none⟩ = some (.bool (sgn Y)) := by go_cell
  have C5 : (((w6.alloc (Obj.cells #[.bool (sgn g), .slice a1 (lenZ g) c1] 95)).alloc (Obj.cells #[.bool (sgn X), .slice a2 (lenZ X) c2] 95)).alloc (Obj.cells #[.bool (sgn Y), .slice a3 (lenZ Y) c3] 95)).cell? ⟨w6.heap.size + 1 + 1, 1, none⟩ = some (.slice a3 (lenZ Y) c3) := by go_cell
  have S0 : w6.heap.size + 1 + 1 < (((w6.alloc (Obj.cells #[.bool (sgn g), .slice a1 (lenZ g) c1] 95)).alloc (Obj.cells #[.bool (sgn X), .slice a2 (lenZ X) c2] 95)).alloc (Obj.cells #[.bool (sgn Y), .slice a3 (lenZ Y) c3] 95)).heap.size := by simp
  generalize (((w6.alloc (Obj.cells #[.bool (sgn g), .slice a1 (lenZ g) c1] 95)).alloc (Obj.cells #[.bool (sgn X), .slice a2 (lenZ X) c2] 95)).alloc (Obj.cells #[.bool (sgn Y), .slice a3 (lenZ Y) c3] 95)) = W7 at *
  generalize hp : w6.heap.size = p at *
  have K : ∀ W : World, Below W7.heap.size W7 W → W.cell? ⟨p, 0, none⟩ = some (.bool (sgn g)) ∧ W.cell? ⟨p, 1, none⟩ = some (.slice a1 (lenZ g) c1) ∧ W.cell? ⟨p + 1, 0, none⟩ = some (.bool (sgn X)) ∧ W.cell? ⟨p + 1, 1, none⟩ = some (.slice a2 (lenZ X) c2) ∧ W.cell? ⟨p + 1 + 1, 0, none⟩ = some (.bool (sgn Y)) ∧ W.cell? ⟨p + 1 + 1, 1, none⟩ = some (.slice a3 (lenZ Y) c3) := fun W hW =>
    ⟨(hW.cell (p := ⟨p, 0, none⟩) (by simp; omega)).trans C0, (hW.cell (p := ⟨p, 1, none⟩) (by simp; omega)).trans C1, (hW.cell (p := ⟨p + 1, 0, none⟩) (by simp; omega)).trans C2, (hW.cell (p := ⟨p + 1, 1, none⟩) (by simp; omega)).trans C3, (hW.cell (p := ⟨p + 1 + 1, 0, none⟩) (by simp; omega)).trans C4, (hW.cell (p := ⟨p + 1 + 1, 1, none⟩) (by simp; omega)).trans C5⟩
  have HW : ∀ W : World, Below W7.heap.size W7 W → Below w6.heap.size w6 W := fun W hW => Below.chain (hp ▸ B0) hW
  have F2 := fun (W : World) (hW : Below W7.heap.size W7 W) => HF.out W (by rw [← hp]; exact HW W hW)
  have KK := Lib.hid K; have HHW := Lib.hid HW; have KF := Lib.hid F2
  have hD : Below W7.heap.size W7 W7.drew := (Below.refl _ _).drew
  clear K HW F2 HF C0 C1 C2 C3 C4 C5 S0 B0 hp
  go_region_held3 (fun w' => w'.cell? ⟨p, 0, none⟩ = some (.bool (sgn g)) ∧ w'.cell? ⟨p, 1, none⟩ = some (.slice a1 (lenZ g) c1) ∧ w'.cell? ⟨p + 1, 0, none⟩ = some (.bool (sgn X)) ∧ w'.cell? ⟨p + 1, 1, none⟩ = some (.slice a2 (lenZ X) c2) ∧ w'.cell? ⟨p + 1 + 1, 0, none⟩ = some (.bool (sgn Y)) ∧ w'.cell? ⟨p + 1 + 1, 1, none⟩ = some (.slice a3 (lenZ Y) c3)) (first | (with_reducible exact KK.out _ hD) | (with_reducible exact KK.out _ hV1) | (with_reducible exact KK.out _ hV2) | (with_reducible exact KK.out _ hV3) | fail) (first
    | (go_at_call_of 93 a1; refine (HT1.out _ _ (Below.chain HB6.out (HHW.out _ hD)) (KF.out _ hD).1).mono ?_; rintro e w8 ⟨rfl, hb8⟩; have hV1 := Below.chain hD hb8)
    | (go_at_call_of 93 a2; refine (HT2.out _ _ (Below.chain HB6.out (HHW.out _ hV1)) (KF.out _ hV1).2.1).mono ?_; rintro e w9 ⟨rfl, hb9⟩; have hV2 := Below.chain hV1 hb9)
    | (go_at_call_of 93 a3; refine (HT3.out _ _ (Below.chain HB6.out (HHW.out _ hV2)) (KF.out _ hV2).2.2).mono ?_; rintro e w10 ⟨rfl, hb10⟩; have hV3 := Below.chain hV2 hb10))
  all_goals
    have hbF := Below.chain HB6.out (HHW.out _ hV3)
    go_wp2
    refine bodyPost_ret (by simp [results, Tryz.results23, go_sem]; rfl) rfl ?_
    exact ⟨rfl, hbF⟩
end Go.Proofs.YtbadibbdoljjhaaGreatDoor

