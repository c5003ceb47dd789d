import Derived.Test.YtdibcllakkjegaaGreatDoorCut29

set_option linter.unusedVariables false
/-
  surveyorref09: equal's loop; equal at all trees; Same, SameAll.
-/
set_option linter.unusedSimpArgs false
set_option linter.unusedVariables false
namespace Go.Proofs.YtdibcllakkjegaaGreatDoor
open Go Go.Proofs Go.RowKit Go.Sort
set_option maxRecDepth 20000 in
set_option maxHeartbeats 4000000 in
theorem equal_go (f : Bool) (k a n a' : Int) (t : ByteArray) (ks ls : List Syn) (b b2 c cd N lo lo2 : Nat) (w : World) (hN1 : ks.length = N) (hN2 : ls.length = N) (h : (!f || a == a') = true) (S1 : SL lo w ks b c) (S2 : SL lo2 w ls b2 cd)
    (KC : ∀ (i : Nat) (h1 : i < ks.length) (h2 : i < ls.length) (W : World) (v u : Value), Below w.heap.size w W → synAt lo W ks[i] v → synAt lo2 W ls[i] u → Calls Tryz.prog 31 #[v, u, .bool f] W fun e w' => e = .returned (.bool (eqS f ks[i] ls[i])) ∧ Below W.heap.size W w') :
    Calls Tryz.prog 31 #[.agg #[.int .i64 k, .int .i64 a, .string t, .int .i64 n, .slice (some ⟨b, 0, none⟩) N c], .agg #[.int .i64 k, .int .i64 a', .string t, .int .i64 n, .slice (some ⟨b2, 0, none⟩) N cd], .bool f] w fun e w' => e = .returned (.bool (eqL f ks ls)) ∧ Below w.heap.size w w' := by
  obtain ⟨r, hr⟩ : ∃ r, eqL f ks ls = r := ⟨_, rfl⟩
  have hall := eqL_get (o := f) ks ls (by omega)
  have hgood : (∀ (i : Nat) (h1 : i < ks.length) (h2 : i < ls.length), eqS f ks[i] ls[i] = true) → r = true := fun g => by rw [← hr]; exact hall.2 g
  have hbad : ∀ (i : Nat) (h1 : i < ks.length) (h2 : i < ls.length), eqS f ks[i] ls[i] = false → r = false := fun i h1 h2 e => by
    cases hq : r with
    | false => rfl
    | true => rw [hq] at hr; rw [hall.1 hr i h1 h2] at e; cases e
  have hA : Below w.heap.size w ((w.alloc (Obj.cells #[.int .i64 k, .int .i64 a, .string t, .int .i64 n, .slice (some ⟨b, 0, none⟩) N c] 25)).alloc (Obj.cells #[.int .i64 k, .int .i64 a', .string t, .int .i64 n, .slice (some ⟨b2, 0, none⟩) N cd] 25)) := ((Below.refl _ _).alloc (Nat.le_refl _) _).alloc (by simp) _
  have x1 := (Bx5.new w (.int .i64 k) (.int .i64 a) (.string t) (.int .i64 n) (.slice (some ⟨b, 0, none⟩) N c)).below ((Below.refl _ _).alloc (Nat.le_refl _) (Obj.cells #[.int .i64 k, .int .i64 a', .string t, .int .i64 n, .slice (some ⟨b2, 0, none⟩) N cd] 25))
  have x2 := Bx5.new (w.alloc (Obj.cells #[.int .i64 k, .int .i64 a, .string t, .int .i64 n, .slice (some ⟨b, 0, none⟩) N c] 25)) (.int .i64 k) (.int .i64 a') (.string t) (.int .i64 n) (.slice (some ⟨b2, 0, none⟩) N cd)
  have hz : (w.alloc (Obj.cells #[.int .i64 k, .int .i64 a, .string t, .int .i64 n, .slice (some ⟨b, 0, none⟩) N c] 25)).heap.size = w.heap.size + 1 := by simp
  rw [hz] at x2
  have hNN : N ≤ maxLen := by have := S1.le; have := S1.max; omega
  have hNI : N ≤ 9223372036854775807 := hNN
  rw [hr]
  have HA := Lib.hid hA; have X1 := Lib.hid x1; have X2 := Lib.hid x2; have HS1 := Lib.hid S1; have HS2 := Lib.hid S2; have HK := Lib.hid KC; have HG := Lib.hid hgood; have HBD := Lib.hid hbad; have HN1 := Lib.hid hN1; have HN2 := Lib.hid hN2; have HNI := Lib.hid hNI
  obtain ⟨p0, p1, p2, p3, p4, -, -⟩ := x1
  obtain ⟨r0, r1, r2, r3, r4, -, -⟩ := x2
  have s5 : f = true → a = a' := fun q => by subst q; simpa using h
  clear hr hall hgood hbad hA hz hNN hNI S1 S2 KC hN1 hN2 h
  have main : ∀ g : Bool, f = g → Calls Tryz.prog 31 #[.agg #[.int .i64 k, .int .i64 a, .string t, .int .i64 n, .slice (some ⟨b, 0, none⟩) N c], .agg #[.int .i64 k, .int .i64 a', .string t, .int .i64 n, .slice (some ⟨b2, 0, none⟩) N cd], .bool g] w fun e w' => e = .returned (.bool r) ∧ Below w.heap.size w w' := by
    intro g hg
    cases g with
    | false =>
      subst hg
      clear s5
      go_enter Tryz.func31, Tryz.ntmps31
      go_wp2_with fail
      go_loopw [7] (fun iv wr => ∃ j : Nat, j ≤ N ∧ iv = .int .i64 (j : Int) ∧ (∀ (i : Nat) (h1 : i < ks.length) (h2 : i < ls.length), i < j → eqS false ks[i] ls[i] = true) ∧ Below ((w.alloc (Obj.cells #[.int .i64 k, .int .i64 a, .string t, .int .i64 n, .slice (some ⟨b, 0, none⟩) N c] 25)).alloc (Obj.cells #[.int .i64 k, .int .i64 a', .string t, .int .i64 n, .slice (some ⟨b2, 0, none⟩) N cd] 25)).heap.size ((w.alloc (Obj.cells #[.int .i64 k, .int .i64 a, .string t, .int .i64 n, .slice (some ⟨b, 0, none⟩) N c] 25)).alloc (Obj.cells #[.int .i64 k, .int .i64 a', .string t, .int .i64 n, .slice (some ⟨b2, 0, none⟩) N cd] 25)) wr) (fun iv _ => N - (intOf iv).toNat)
      case atStart => exact ⟨0, Nat.zero_le _, rfl, fun i h1 h2 h => absurd h (Nat.not_lt_zero _), Below.refl _ _⟩
      case round =>
        obtain ⟨j, hj, rfl, hg, hB⟩ := hrel
        have HB := Lib.hid hB
        have Y1 := X1.out.below hB
        have Y2 := (show Bx5 ((w.alloc (Obj.cells #[.int .i64 k, .int .i64 a, .string t, .int .i64 n, .slice (some ⟨b, 0, none⟩) N c] 25)).alloc (Obj.cells #[.int .i64 k, .int .i64 a', .string t, .int .i64 n, .slice (some ⟨b2, 0, none⟩) N cd] 25)) (w.heap.size + 1) _ _ _ _ _ from X2.out).below hB
        have y1 := Y1.c4; have y2 := Y2.c4
        by_cases hlt : j < N
        · have h1 : j < ks.length := by rw [HN1.out]; exact hlt
          have h2 : j < ls.length := by rw [HN2.out]; exact hlt
          have hBw := Below.chain HA.out hB
          obtain ⟨v0, v1, v2, v3, v4, c0, c1, c2, c3, c4, hx⟩ := rowAt_get ks b 0 j h1 (HS1.out.below hBw).row
          obtain ⟨u0, u1, u2, u3, u4, e0, e1, e2, e3, e4, hy⟩ := rowAt_get ls b2 0 j h2 (HS2.out.below hBw).row
          have ej : wrap64 ((j : Int) + 1) = (j : Int) + 1 := by have q1 := HNI.out; unfold wrap64; omega
          have g0 : (0 : Int) ≤ (j : Int) := by omega
          have g1 : (j : Int) < (N : Int) := by omega
          have hge : ¬ (N : Int) ≤ (j : Int) := by omega
          have CS := fun d' os => Calls.regrown_of (HK.out j h1 h2 _ _ _ (hBw.trans (Below.down (below_regrown wr d' os) hBw.size)) (synAt.keep (From.of_below (below_regrown wr d' os)) (Nat.le_refl _) _ _ hx) (synAt.keep (From.of_below (below_regrown wr d' os)) (Nat.le_refl _) _ _ hy))
          have z1 : ∀ d os, (grow (redrawn wr d) os).cell? ⟨w.heap.size, 4, none⟩ = some (.slice (some ⟨b, 0, none⟩) N c) := fun d os => cell_regrown y1 d os
          have z2 : ∀ d os, (grow (redrawn wr d) os).cell? ⟨w.heap.size + 1, 4, none⟩ = some (.slice (some ⟨b2, 0, none⟩) N cd) := fun d os => cell_regrown y2 d os
          rw [Nat.zero_add] at c0 c1 c2 c3 c4 e0 e1 e2 e3 e4
          have m0 := fun d os => cell_regrown c0 d os
          have m1 := fun d os => cell_regrown c1 d os
          have m2 := fun d os => cell_regrown c2 d os
          have m3 := fun d os => cell_regrown c3 d os
          have m4 := fun d os => cell_regrown c4 d os
          have o0 := fun d os => cell_regrown e0 d os
          have o1 := fun d os => cell_regrown e1 d os
          have o2 := fun d os => cell_regrown e2 d os
          have o3 := fun d os => cell_regrown e3 d os
          have o4 := fun d os => cell_regrown e4 d os
          have KS := Lib.hid CS
          have hbd := HBD.out j h1 h2
          have hst : eqS false ks[j] ls[j] = true → ∀ (i : Nat) (h1 : i < ks.length) (h2 : i < ls.length), i < j + 1 → eqS false ks[i] ls[i] = true := fun e i g1 g2 hi => by
            rcases Nat.lt_or_ge i j with q | q
            · exact hg i g1 g2 q
            · obtain rfl : i = j := by omega
              exact e
          have HJ : Hid (j + 1 ≤ N) := Lib.hid hlt
          clear CS hx hy hBw hB hlt hj hg Y1 Y2 c0 c1 c2 c3 c4 e0 e1 e2 e3 e4
          cases hq : eqS false ks[j] ls[j] with
          | false =>
            have HR := Lib.hid (hbd hq)
            rw [hq] at KS
            clear hbd hst hq h1 h2
            go_wp2_with fail
            refine wp_region_quiet_below (by kernel_rfl) (by kernel_rfl) ?_
            quiet_step (fail)
            quiet_step (fail)
            quiet_step (fail)
            quiet_step (fail)
            quiet_step (fail)
            quiet_step (fail)
            quiet_step (fail)
            quiet_step (fail)
            quiet_step (fail)
            quiet_step (fail)
            quiet_step (fail)
            quiet_step (exact KS.out _ _)
            quiet_step (fail)
            refine wpQuiet_nil ?_
            intro _ hw'
            obtain ⟨⟨dq, osq⟩, hw''⟩ := hw'
            subst hw''
            go_wp2
            go_ret
            exact ⟨congrArg (fun z => Ending.returned (.bool z)) HR.out.symm, (Below.chain HA.out HB.out).trans (Below.down (below_regrown wr dq osq) (Below.chain HA.out HB.out).size)⟩
          | true =>
            have HG2 := Lib.hid (hst hq)
            rw [hq] at KS
            clear hbd hst hq h1 h2
            go_wp2_with fail
            refine wp_region_quiet_below (by kernel_rfl) (by kernel_rfl) ?_
            quiet_step (fail)
            quiet_step (fail)
            quiet_step (fail)
            quiet_step (fail)
            quiet_step (fail)
            quiet_step (fail)
            quiet_step (fail)
            quiet_step (fail)
            quiet_step (fail)
            quiet_step (fail)
            quiet_step (fail)
            quiet_step (exact KS.out _ _)
            quiet_step (fail)
            refine wpQuiet_nil ?_
            intro _ hw'
            obtain ⟨⟨dq, osq⟩, hw''⟩ := hw'
            subst hw''
            go_wp2
            go_roundw
            case rel => exact ⟨j + 1, HJ.out, (by first | exact congrArg (Value.int .i64) (Int.natCast_add j 1).symm | exact congrArg (Value.int .i64) (ej.trans (Int.natCast_add j 1).symm)), HG2.out, HB.out.trans (Below.down (below_regrown wr dq osq) HB.out.size)⟩
            case measure => have := HJ.out; first | (show N - ((j : Int) + 1).toNat < N - ((j : Int)).toNat; omega) | (rw [ej]; show N - ((j : Int) + 1).toNat < N - ((j : Int)).toNat; omega)
        · obtain rfl : j = N := by omega
          have HR := Lib.hid (HG.out (fun i h1 h2 => hg i h1 h2 (by rw [← HN1.out]; exact h1)))
          have hge : ¬ (j : Int) < (j : Int) := by omega
          clear hg hB hlt hj Y1 Y2
          go_wp2
          go_ret
          exact ⟨congrArg (fun z => Ending.returned (.bool z)) HR.out.symm, Below.chain HA.out HB.out⟩
    | true =>
      subst hg
      obtain rfl := s5 rfl
      clear s5
      go_enter Tryz.func31, Tryz.ntmps31
      go_wp2_with fail
      go_loopw [7] (fun iv wr => ∃ j : Nat, j ≤ N ∧ iv = .int .i64 (j : Int) ∧ (∀ (i : Nat) (h1 : i < ks.length) (h2 : i < ls.length), i < j → eqS true ks[i] ls[i] = true) ∧ Below ((w.alloc (Obj.cells #[.int .i64 k, .int .i64 a, .string t, .int .i64 n, .slice (some ⟨b, 0, none⟩) N c] 25)).alloc (Obj.cells #[.int .i64 k, .int .i64 a, .string t, .int .i64 n, .slice (some ⟨b2, 0, none⟩) N cd] 25)).heap.size ((w.alloc (Obj.cells #[.int .i64 k, .int .i64 a, .string t, .int .i64 n, .slice (some ⟨b, 0, none⟩) N c] 25)).alloc (Obj.cells #[.int .i64 k, .int .i64 a, .string t, .int .i64 n, .slice (some ⟨b2, 0, none⟩) N cd] 25)) wr) (fun iv _ => N - (intOf iv).toNat)
      case atStart => exact ⟨0, Nat.zero_le _, rfl, fun i h1 h2 h => absurd h (Nat.not_lt_zero _), Below.refl _ _⟩
      case round =>
        obtain ⟨j, hj, rfl, hg, hB⟩ := hrel
        have HB := Lib.hid hB
        have Y1 := X1.out.below hB
        have Y2 := (show Bx5 ((w.alloc (Obj.cells #[.int .i64 k, .int .i64 a, .string t, .int .i64 n, .slice (some ⟨b, 0, none⟩) N c] 25)).alloc (Obj.cells #[.int .i64 k, .int .i64 a, .string t, .int .i64 n, .slice (some ⟨b2, 0, none⟩) N cd] 25)) (w.heap.size + 1) _ _ _ _ _ from X2.out).below hB
        have y1 := Y1.c4; have y2 := Y2.c4
        by_cases hlt : j < N
        · have h1 : j < ks.length := by rw [HN1.out]; exact hlt
          have h2 : j < ls.length := by rw [HN2.out]; exact hlt
          have hBw := Below.chain HA.out hB
          obtain ⟨v0, v1, v2, v3, v4, c0, c1, c2, c3, c4, hx⟩ := rowAt_get ks b 0 j h1 (HS1.out.below hBw).row
          obtain ⟨u0, u1, u2, u3, u4, e0, e1, e2, e3, e4, hy⟩ := rowAt_get ls b2 0 j h2 (HS2.out.below hBw).row
          have ej : wrap64 ((j : Int) + 1) = (j : Int) + 1 := by have q1 := HNI.out; unfold wrap64; omega
          have g0 : (0 : Int) ≤ (j : Int) := by omega
          have g1 : (j : Int) < (N : Int) := by omega
          have hge : ¬ (N : Int) ≤ (j : Int) := by omega
          have CS := fun d' os => Calls.regrown_of (HK.out j h1 h2 _ _ _ (hBw.trans (Below.down (below_regrown wr d' os) hBw.size)) (synAt.keep (From.of_below (below_regrown wr d' os)) (Nat.le_refl _) _ _ hx) (synAt.keep (From.of_below (below_regrown wr d' os)) (Nat.le_refl _) _ _ hy))
          have z1 : ∀ d os, (grow (redrawn wr d) os).cell? ⟨w.heap.size, 4, none⟩ = some (.slice (some ⟨b, 0, none⟩) N c) := fun d os => cell_regrown y1 d os
          have z2 : ∀ d os, (grow (redrawn wr d) os).cell? ⟨w.heap.size + 1, 4, none⟩ = some (.slice (some ⟨b2, 0, none⟩) N cd) := fun d os => cell_regrown y2 d os
          rw [Nat.zero_add] at c0 c1 c2 c3 c4 e0 e1 e2 e3 e4
          have m0 := fun d os => cell_regrown c0 d os
          have m1 := fun d os => cell_regrown c1 d os
          have m2 := fun d os => cell_regrown c2 d os
          have m3 := fun d os => cell_regrown c3 d os
          have m4 := fun d os => cell_regrown c4 d os
          have o0 := fun d os => cell_regrown e0 d os
          have o1 := fun d os => cell_regrown e1 d os
          have o2 := fun d os => cell_regrown e2 d os
          have o3 := fun d os => cell_regrown e3 d os
          have o4 := fun d os => cell_regrown e4 d os
          have KS := Lib.hid CS
          have hbd := HBD.out j h1 h2
          have hst : eqS true ks[j] ls[j] = true → ∀ (i : Nat) (h1 : i < ks.length) (h2 : i < ls.length), i < j + 1 → eqS true ks[i] ls[i] = true := fun e i g1 g2 hi => by
            rcases Nat.lt_or_ge i j with q | q
            · exact hg i g1 g2 q
            · obtain rfl : i = j := by omega
              exact e
          have HJ : Hid (j + 1 ≤ N) := Lib.hid hlt
          clear CS hx hy hBw hB hlt hj hg Y1 Y2 c0 c1 c2 c3 c4 e0 e1 e2 e3 e4
          cases hq : eqS true ks[j] ls[j] with
          | false =>
            have HR := Lib.hid (hbd hq)
            rw [hq] at KS
            clear hbd hst hq h1 h2
            go_wp2_with fail
            refine wp_region_quiet_below (by kernel_rfl) (by kernel_rfl) ?_
            quiet_step (fail)
            quiet_step (fail)
            quiet_step (fail)
            quiet_step (fail)
            quiet_step (fail)
            quiet_step (fail)
            quiet_step (fail)
            quiet_step (fail)
            quiet_step (fail)
            quiet_step (fail)
            quiet_step (fail)
            quiet_step (exact KS.out _ _)
            quiet_step (fail)
            refine wpQuiet_nil ?_
            intro _ hw'
            obtain ⟨⟨dq, osq⟩, hw''⟩ := hw'
            subst hw''
            go_wp2
            go_ret
            exact ⟨congrArg (fun z => Ending.returned (.bool z)) HR.out.symm, (Below.chain HA.out HB.out).trans (Below.down (below_regrown wr dq osq) (Below.chain HA.out HB.out).size)⟩
          | true =>
            have HG2 := Lib.hid (hst hq)
            rw [hq] at KS
            clear hbd hst hq h1 h2
            go_wp2_with fail
            refine wp_region_quiet_below (by kernel_rfl) (by kernel_rfl) ?_
            quiet_step (fail)
            quiet_step (fail)
            quiet_step (fail)
            quiet_step (fail)
            quiet_step (fail)
            quiet_step (fail)
            quiet_step (fail)
            quiet_step (fail)
            quiet_step (fail)
            quiet_step (fail)
            quiet_step (fail)
            quiet_step (exact KS.out _ _)
            quiet_step (fail)
            refine wpQuiet_nil ?_
            intro _ hw'
            obtain ⟨⟨dq, osq⟩, hw''⟩ := hw'
            subst hw''
            go_wp2
            go_roundw
            case rel => exact ⟨j + 1, HJ.out, (by first | exact congrArg (Value.int .i64) (Int.natCast_add j 1).symm | exact congrArg (Value.int .i64) (ej.trans (Int.natCast_add j 1).symm)), HG2.out, HB.out.trans (Below.down (below_regrown wr dq osq) HB.out.size)⟩
            case measure => have := HJ.out; first | (show N - ((j : Int) + 1).toNat < N - ((j : Int)).toNat; omega) | (rw [ej]; show N - ((j : Int) + 1).toNat < N - ((j : Int)).toNat; omega)
        · obtain rfl : j = N := by omega
          have HR := Lib.hid (HG.out (fun i h1 h2 => hg i h1 h2 (by rw [← HN1.out]; exact h1)))
          have hge : ¬ (j : Int) < (j : Int) := by omega
          clear hg hB hlt hj Y1 Y2
          go_wp2
          go_ret
          exact ⟨congrArg (fun z => Ending.returned (.bool z)) HR.out.symm, Below.chain HA.out HB.out⟩
  exact main f rfl
set_option maxRecDepth 20000 in
set_option maxHeartbeats 4000000 in
theorem equal_nil (f : Bool) (k a n a' : Int) (t : ByteArray) (ao bo : Option Addr) (c d : Nat) (w : World) (h : (!f || a == a') = true) :
    Calls Tryz.prog 31 #[.agg #[.int .i64 k, .int .i64 a, .string t, .int .i64 n, .slice ao 0 c], .agg #[.int .i64 k, .int .i64 a', .string t, .int .i64 n, .slice bo 0 d], .bool f] w fun e w' => e = .returned (.bool true) ∧ Below w.heap.size w w' := by
  cases f with
  | false =>
    clear h
    have hA : Below w.heap.size w ((w.alloc (Obj.cells #[.int .i64 k, .int .i64 a, .string t, .int .i64 n, .slice ao 0 c] 25)).alloc (Obj.cells #[.int .i64 k, .int .i64 a', .string t, .int .i64 n, .slice bo 0 d] 25)) := ((Below.refl _ _).alloc (Nat.le_refl _) _).alloc (by simp) _
    have x1 := (Bx5.new w (.int .i64 k) (.int .i64 a) (.string t) (.int .i64 n) (.slice ao 0 c)).below ((Below.refl _ _).alloc (Nat.le_refl _) (Obj.cells #[.int .i64 k, .int .i64 a', .string t, .int .i64 n, .slice bo 0 d] 25))
    have x2 := Bx5.new (w.alloc (Obj.cells #[.int .i64 k, .int .i64 a, .string t, .int .i64 n, .slice ao 0 c] 25)) (.int .i64 k) (.int .i64 a') (.string t) (.int .i64 n) (.slice bo 0 d)
    have hz : (w.alloc (Obj.cells #[.int .i64 k, .int .i64 a, .string t, .int .i64 n, .slice ao 0 c] 25)).heap.size = w.heap.size + 1 := by simp
    rw [hz] at x2
    obtain ⟨p0, p1, p2, p3, p4, -, -⟩ := x1
    obtain ⟨r0, r1, r2, r3, r4, -, -⟩ := x2
    have HA := Lib.hid hA
    clear hA hz
    go_enter Tryz.func31, Tryz.ntmps31
    go_wp2_with fail
    go_loopw [7] (fun iv wr => iv = .int .i64 0 ∧ wr = ((w.alloc (Obj.cells #[.int .i64 k, .int .i64 a, .string t, .int .i64 n, .slice ao 0 c] 25)).alloc (Obj.cells #[.int .i64 k, .int .i64 a', .string t, .int .i64 n, .slice bo 0 d] 25))) (fun iv _ => 0)
    case atStart => exact ⟨rfl, rfl⟩
    case round =>
      obtain ⟨rfl, hw⟩ := hrel
      subst hw
      go_wp2
      go_ret
      exact ⟨rfl, HA.out⟩
  | true =>
    obtain rfl : a = a' := by simpa using h
    clear h
    have hA : Below w.heap.size w ((w.alloc (Obj.cells #[.int .i64 k, .int .i64 a, .string t, .int .i64 n, .slice ao 0 c] 25)).alloc (Obj.cells #[.int .i64 k, .int .i64 a, .string t, .int .i64 n, .slice bo 0 d] 25)) := ((Below.refl _ _).alloc (Nat.le_refl _) _).alloc (by simp) _
    have x1 := (Bx5.new w (.int .i64 k) (.int .i64 a) (.string t) (.int .i64 n) (.slice ao 0 c)).below ((Below.refl _ _).alloc (Nat.le_refl _) (Obj.cells #[.int .i64 k, .int .i64 a, .string t, .int .i64 n, .slice bo 0 d] 25))
    have x2 := Bx5.new (w.alloc (Obj.cells #[.int .i64 k, .int .i64 a, .string t, .int .i64 n, .slice ao 0 c] 25)) (.int .i64 k) (.int .i64 a) (.string t) (.int .i64 n) (.slice bo 0 d)
    have hz : (w.alloc (Obj.cells #[.int .i64 k, .int .i64 a, .string t, .int .i64 n, .slice ao 0 c] 25)).heap.size = w.heap.size + 1 := by simp
    rw [hz] at x2
    obtain ⟨p0, p1, p2, p3, p4, -, -⟩ := x1
    obtain ⟨r0, r1, r2, r3, r4, -, -⟩ := x2
    have HA := Lib.hid hA
    clear hA hz
    go_enter Tryz.func31, Tryz.ntmps31
    go_wp2_with fail
    go_loopw [7] (fun iv wr => iv = .int .i64 0 ∧ wr = ((w.alloc (Obj.cells #[.int .i64 k, .int .i64 a, .string t, .int .i64 n, .slice ao 0 c] 25)).alloc (Obj.cells #[.int .i64 k, .int .i64 a, .string t, .int .i64 n, .slice bo 0 d] 25))) (fun iv _ => 0)
    case atStart => exact ⟨rfl, rfl⟩
    case round =>
      obtain ⟨rfl, hw⟩ := hrel
      subst hw
      go_wp2
      go_ret
      exact ⟨rfl, HA.out⟩
theorem size_kid {k a n : Int} {t : ByteArray} {ks : List Syn} {i : Nat} (h : i < ks.length) : SizeOf.sizeOf ks[i] < SizeOf.sizeOf (Syn.mk k a t n ks) := by
  have h1 := List.sizeOf_lt_of_mem (List.getElem_mem h)
  simp only [Syn.mk.sizeOf_spec]
  omega
theorem equal_any (f : Bool) : ∀ (N : Nat) (x y : Syn) (lo lo2 : Nat) (v u : Value) (w : World), SizeOf.sizeOf x < N → synAt lo w x v → synAt lo2 w y u →
    Calls Tryz.prog 31 #[v, u, .bool f] w fun e w' => e = .returned (.bool (eqS f x y)) ∧ Below w.heap.size w w'
  | 0, _, _, _, _, _, _, _, h, _, _ => by omega
  | N + 1, .mk k a t n ks, .mk k' a' t' n' ls, lo, lo2, v, u, w, hN, hx, hy => by
    obtain ⟨kv, rfl, hk⟩ := synAt_mk.mp hx
    obtain ⟨lv, rfl, hl⟩ := synAt_mk.mp hy
    have KC : ∀ (i : Nat) (h1 : i < ks.length) (h2 : i < ls.length) (W : World) (v u : Value), Below w.heap.size w W → synAt lo W ks[i] v → synAt lo2 W ls[i] u → Calls Tryz.prog 31 #[v, u, .bool f] W fun e w' => e = .returned (.bool (eqS f ks[i] ls[i])) ∧ Below W.heap.size W w' :=
      fun i h1 h2 W v u hb g1 g2 => equal_any f N _ _ lo lo2 v u W (by have := size_kid (k := k) (a := a) (n := n) (t := t) h1; omega) g1 g2
    have he : eqS f (.mk k a t n ks) (.mk k' a' t' n' ls) = (((k == k') && ((t == t') && ((n == n') && ((ks.length == ls.length) && (!f || a == a'))))) && eqL f ks ls) := by
      rw [eqS]
      simp only [Bool.and_assoc]
    rw [he]
    have hsl : ∃ ao c, kv = .slice ao ks.length c := by
      rcases hk with ⟨h1, rfl⟩ | ⟨b, c, rfl, -⟩
      · exact ⟨none, 0, by rw [h1]⟩
      · exact ⟨_, c, rfl⟩
    have hsm : ∃ bo d, lv = .slice bo ls.length d := by
      rcases hl with ⟨h1, rfl⟩ | ⟨b, c, rfl, -⟩
      · exact ⟨none, 0, by rw [h1]⟩
      · exact ⟨_, c, rfl⟩
    obtain ⟨ao, c, rfl⟩ := hsl
    obtain ⟨bo, d, rfl⟩ := hsm
    cases hp : ((k == k') && ((t == t') && ((n == n') && ((ks.length == ls.length) && (!f || a == a'))))) with
    | false => exact equal_no f k a n k' a' n' t t' ao bo ks.length c ls.length d w hp
    | true =>
      rw [Bool.true_and]
      simp only [Bool.and_eq_true] at hp
      obtain ⟨q1, q2, q3, q4, q5⟩ := hp
      obtain rfl : k = k' := beq_iff_eq.1 q1
      obtain rfl : t = t' := (beq_ba t t').1 q2
      obtain rfl : n = n' := beq_iff_eq.1 q3
      have hlen : ks.length = ls.length := beq_iff_eq.1 q4
      cases ks with
      | nil =>
        have hls : ls = [] := List.length_eq_zero_iff.1 hlen.symm
        subst hls
        rw [eqL_nil]
        exact equal_nil f k a n a' t ao bo c d w q5
      | cons x r =>
        cases ls with
        | nil => cases hlen
        | cons y s =>
          obtain ⟨b, c2, e1, s1⟩ := kids_cons hk
          obtain ⟨b2, d2, e2, s2⟩ := kids_cons hl
          rw [e1, e2]
          have hsr : s.length = r.length := by simpa using hlen.symm
          rw [hsr]
          exact equal_go f k a n a' t (x :: r) (y :: s) b b2 c2 d2 (r.length + 1) lo lo2 w rfl (by simp [hsr]) q5 s1 s2 KC
theorem same_any9 (x y : Syn) (lo lo2 : Nat) (v u : Value) (w : World) (hx : synAt lo w x v) (hy : synAt lo2 w y u) :
    Calls Tryz.prog 23 #[v, u] w fun e w' => e = .returned (.bool (eqS false x y)) ∧ Below w.heap.size w w' := by
  obtain ⟨k, a, t, n, ao, l, c, ks, rfl, rfl, -⟩ := hx.shape
  obtain ⟨k', a', t', n', bo, m, d, ls, rfl, rfl, -⟩ := hy.shape
  have hA : Below w.heap.size w ((w.alloc (Obj.cells #[.int .i64 k, .int .i64 a, .string t, .int .i64 n, .slice ao l c] 25)).alloc (Obj.cells #[.int .i64 k', .int .i64 a', .string t', .int .i64 n', .slice bo m d] 25)) := ((Below.refl _ _).alloc (Nat.le_refl _) _).alloc (by simp) _
  have x1 := (Bx5.new w (.int .i64 k) (.int .i64 a) (.string t) (.int .i64 n) (.slice ao l c)).below ((Below.refl _ _).alloc (Nat.le_refl _) (Obj.cells #[.int .i64 k', .int .i64 a', .string t', .int .i64 n', .slice bo m d] 25))
  have x2 := Bx5.new (w.alloc (Obj.cells #[.int .i64 k, .int .i64 a, .string t, .int .i64 n, .slice ao l c] 25)) (.int .i64 k') (.int .i64 a') (.string t') (.int .i64 n') (.slice bo m d)
  have hz : (w.alloc (Obj.cells #[.int .i64 k, .int .i64 a, .string t, .int .i64 n, .slice ao l c] 25)).heap.size = w.heap.size + 1 := by simp
  rw [hz] at x2
  obtain ⟨p0, p1, p2, p3, p4, -, -⟩ := x1
  obtain ⟨r0, r1, r2, r3, r4, -, -⟩ := x2
  have CS := equal_any false _ _ _ lo lo2 _ _ ((w.alloc (Obj.cells #[.int .i64 k, .int .i64 a, .string t, .int .i64 n, .slice ao l c] 25)).alloc (Obj.cells #[.int .i64 k', .int .i64 a', .string t', .int .i64 n', .slice bo m d] 25)) (Nat.lt_succ_self _) (synAt.keep (From.of_below hA) (Nat.le_refl _) _ _ hx) (synAt.keep (From.of_below hA) (Nat.le_refl _) _ _ hy)
  have HA := Lib.hid hA; have KS := Lib.hid CS
  clear hA hz CS hx hy
  go_enter Tryz.func23, Tryz.ntmps23
  go_wp2_with (go_at_call 31; refine (KS.out).mono ?_; rintro e w3 ⟨rfl, hb⟩; refine Hid.out ?_)
  have HB := Lib.hid (Below.chain HA.out hb)
  clear hb
  refine Lib.hid ?_
  go_wp2
  go_ret
  exact ⟨rfl, HB.out⟩
set_option maxRecDepth 20000 in
set_option maxHeartbeats 1000000 in
theorem ppart0 (s : ByteArray) (n : Nat) (hn : n < 256) (hj : n % 4 = 0) (w : World) (ht : Lib.TabBelow Tryz.prog w.heap.size w "surveyor/lexer.classes" .u8 clsTab) (hev : EvAt w) : Calls Tryz.prog 16 #[.string s, .int .u8 (n : Int)] w (Ans 0 s w) := by
  have hA : Below w.heap.size w (w.alloc (Obj.cells #[.int .i64 0, .int .i64 0, .string ⟨#[]⟩, .int .i64 0, .slice none 0 0] 25)) := (Below.refl _ _).alloc (Nat.le_refl _) _
  have CS := pParse s (w.alloc (Obj.cells #[.int .i64 0, .int .i64 0, .string ⟨#[]⟩, .int .i64 0, .slice none 0 0] 25)) (fun W hW => ht W (Below.chain hA hW)) (hev.below hA)
  have hX := Bx5.new w (.int .i64 0) (.int .i64 0) (.string ⟨#[]⟩) (.int .i64 0) (.slice none 0 0)
  have hz : (w.alloc (Obj.cells #[.int .i64 0, .int .i64 0, .string ⟨#[]⟩, .int .i64 0, .slice none 0 0] 25)).heap.size = w.heap.size + 1 := by simp
  have hm : ((n : Int)).tmod 4 = 0 := by
    have : ((n : Int)).tmod 4 = ((n % 4 : Nat) : Int) := by rw [Int.tmod_eq_emod_of_nonneg (by omega)]; omega
    rw [this, hj]; rfl
  have KS := Lib.hid CS; have HA := Lib.hid hA; have HX := Lib.hid hX; have HZ := Lib.hid hz
  clear CS hA hX ht hev hz hj
  go_enter Tryz.func16, Tryz.ntmps16
  go_wp2_with (go_at_call 13; refine (KS.out).mono ?_; rintro e w2 ⟨k4, a4, t4, n4, o4, l4, c4, a, c, rfl, hb2, hx⟩; refine Hid.out ?_)
  obtain ⟨y0, y1, y2, y3, y4, yf, yl⟩ := HX.out.below hb2
  have f0 := yf 0; have f1 := yf 1; have f2 := yf 2; have f3 := yf 3; have f4 := yf 4
  obtain ⟨r0, r1, r2, r3, r4⟩ := box5 y0 y1 y2 y3 y4 (.int .i64 k4) (.int .i64 a4) (.string t4) (.int .i64 n4) (.slice o4 l4 c4) _ rfl
  have hlo : w.heap.size < (w.alloc (Obj.cells #[.int .i64 0, .int .i64 0, .string ⟨#[]⟩, .int .i64 0, .slice none 0 0] 25)).heap.size := by rw [HZ.out]; exact Nat.lt_succ_self _
  have HB := Lib.hid (below_set5 (Below.chain HA.out hb2) (Nat.le_refl _) (.int .i64 k4) (.int .i64 a4) (.string t4) (.int .i64 n4) (.slice o4 l4 c4))
  have fr : From (w.alloc (Obj.cells #[.int .i64 0, .int .i64 0, .string ⟨#[]⟩, .int .i64 0, .slice none 0 0] 25)).heap.size w2 _ := (((((From.refl (w.alloc (Obj.cells #[.int .i64 0, .int .i64 0, .string ⟨#[]⟩, .int .i64 0, .slice none 0 0] 25)).heap.size w2).setCell ⟨w.heap.size, 0, none⟩ hlo (.int .i64 k4)).setCell ⟨w.heap.size, 1, none⟩ hlo (.int .i64 a4)).setCell ⟨w.heap.size, 2, none⟩ hlo (.string t4)).setCell ⟨w.heap.size, 3, none⟩ hlo (.int .i64 n4)).setCell ⟨w.heap.size, 4, none⟩ hlo (.slice o4 l4 c4)
  have GX := Lib.hid (hx.keep fr (Nat.le_of_lt hlo))
  clear hb2 hx yf yl fr hlo hm
  refine Lib.hid ?_
  go_wp2
  refine bodyPost_ret (by simp [results, Tryz.results16, go_sem, r0, r1, r2, r3, r4]; rfl) rfl ?_
  exact ⟨_, _, _, _, _, _, _, _, _, rfl, HB.out, GX.out⟩
set_option maxRecDepth 20000 in
set_option maxHeartbeats 1000000 in
theorem ppart1 (s : ByteArray) (n : Nat) (hn : n < 256) (hj : n % 4 = 1) (w : World) (ht : Lib.TabBelow Tryz.prog w.heap.size w "surveyor/lexer.classes" .u8 clsTab) (hev : EvAt w) : Calls Tryz.prog 16 #[.string s, .int .u8 (n : Int)] w (Ans 1 s w) := by
  have hA : Below w.heap.size w (w.alloc (Obj.cells #[.int .i64 0, .int .i64 0, .string ⟨#[]⟩, .int .i64 0, .slice none 0 0] 25)) := (Below.refl _ _).alloc (Nat.le_refl _) _
  have CS := pProc s (w.alloc (Obj.cells #[.int .i64 0, .int .i64 0, .string ⟨#[]⟩, .int .i64 0, .slice none 0 0] 25)) (fun W hW => ht W (Below.chain hA hW)) (hev.below hA)
  have hX := Bx5.new w (.int .i64 0) (.int .i64 0) (.string ⟨#[]⟩) (.int .i64 0) (.slice none 0 0)
  have hz : (w.alloc (Obj.cells #[.int .i64 0, .int .i64 0, .string ⟨#[]⟩, .int .i64 0, .slice none 0 0] 25)).heap.size = w.heap.size + 1 := by simp
  have hm : ((n : Int)).tmod 4 = 1 := by
    have : ((n : Int)).tmod 4 = ((n % 4 : Nat) : Int) := by rw [Int.tmod_eq_emod_of_nonneg (by omega)]; omega
    rw [this, hj]; rfl
  have KS := Lib.hid CS; have HA := Lib.hid hA; have HX := Lib.hid hX; have HZ := Lib.hid hz
  clear CS hA hX ht hev hz hj
  go_enter Tryz.func16, Tryz.ntmps16
  go_wp2_with (go_at_call 27; refine (KS.out).mono ?_; rintro e w2 ⟨k4, a4, t4, n4, o4, l4, c4, a, c, rfl, hb2, hx⟩; refine Hid.out ?_)
  obtain ⟨y0, y1, y2, y3, y4, yf, yl⟩ := HX.out.below hb2
  have f0 := yf 0; have f1 := yf 1; have f2 := yf 2; have f3 := yf 3; have f4 := yf 4
  obtain ⟨r0, r1, r2, r3, r4⟩ := box5 y0 y1 y2 y3 y4 (.int .i64 k4) (.int .i64 a4) (.string t4) (.int .i64 n4) (.slice o4 l4 c4) _ rfl
  have hlo : w.heap.size < (w.alloc (Obj.cells #[.int .i64 0, .int .i64 0, .string ⟨#[]⟩, .int .i64 0, .slice none 0 0] 25)).heap.size := by rw [HZ.out]; exact Nat.lt_succ_self _
  have HB := Lib.hid (below_set5 (Below.chain HA.out hb2) (Nat.le_refl _) (.int .i64 k4) (.int .i64 a4) (.string t4) (.int .i64 n4) (.slice o4 l4 c4))
  have fr : From (w.alloc (Obj.cells #[.int .i64 0, .int .i64 0, .string ⟨#[]⟩, .int .i64 0, .slice none 0 0] 25)).heap.size w2 _ := (((((From.refl (w.alloc (Obj.cells #[.int .i64 0, .int .i64 0, .string ⟨#[]⟩, .int .i64 0, .slice none 0 0] 25)).heap.size w2).setCell ⟨w.heap.size, 0, none⟩ hlo (.int .i64 k4)).setCell ⟨w.heap.size, 1, none⟩ hlo (.int .i64 a4)).setCell ⟨w.heap.size, 2, none⟩ hlo (.string t4)).setCell ⟨w.heap.size, 3, none⟩ hlo (.int .i64 n4)).setCell ⟨w.heap.size, 4, none⟩ hlo (.slice o4 l4 c4)
  have GX := Lib.hid (hx.keep fr (Nat.le_of_lt hlo))
  clear hb2 hx yf yl fr hlo hm
  refine Lib.hid ?_
  go_wp2
  refine bodyPost_ret (by simp [results, Tryz.results16, go_sem, r0, r1, r2, r3, r4]; rfl) rfl ?_
  exact ⟨_, _, _, _, _, _, _, _, _, rfl, HB.out, GX.out⟩
set_option maxRecDepth 20000 in
set_option maxHeartbeats 1000000 in
theorem ppart2 (s : ByteArray) (n : Nat) (hn : n < 256) (hj : n % 4 = 2) (w : World) (ht : Lib.TabBelow Tryz.prog w.heap.size w "surveyor/lexer.classes" .u8 clsTab) (hev : EvAt w) : Calls Tryz.prog 16 #[.string s, .int .u8 (n : Int)] w (Ans 2 s w) := by
  have hA : Below w.heap.size w (w.alloc (Obj.cells #[.int .i64 0, .int .i64 0, .string ⟨#[]⟩, .int .i64 0, .slice none 0 0] 25)) := (Below.refl _ _).alloc (Nat.le_refl _) _
  have CS := pCond s (w.alloc (Obj.cells #[.int .i64 0, .int .i64 0, .string ⟨#[]⟩, .int .i64 0, .slice none 0 0] 25)) (fun W hW => ht W (Below.chain hA hW)) (hev.below hA)
  have hX := Bx5.new w (.int .i64 0) (.int .i64 0) (.string ⟨#[]⟩) (.int .i64 0) (.slice none 0 0)
  have hz : (w.alloc (Obj.cells #[.int .i64 0, .int .i64 0, .string ⟨#[]⟩, .int .i64 0, .slice none 0 0] 25)).heap.size = w.heap.size + 1 := by simp
  have hm : ((n : Int)).tmod 4 = 2 := by
    have : ((n : Int)).tmod 4 = ((n % 4 : Nat) : Int) := by rw [Int.tmod_eq_emod_of_nonneg (by omega)]; omega
    rw [this, hj]; rfl
  have KS := Lib.hid CS; have HA := Lib.hid hA; have HX := Lib.hid hX; have HZ := Lib.hid hz
  clear CS hA hX ht hev hz hj
  go_enter Tryz.func16, Tryz.ntmps16
  go_wp2_with (go_at_call 19; refine (KS.out).mono ?_; rintro e w2 ⟨k4, a4, t4, n4, o4, l4, c4, a, c, rfl, hb2, hx⟩; refine Hid.out ?_)
  obtain ⟨y0, y1, y2, y3, y4, yf, yl⟩ := HX.out.below hb2
  have f0 := yf 0; have f1 := yf 1; have f2 := yf 2; have f3 := yf 3; have f4 := yf 4
  obtain ⟨r0, r1, r2, r3, r4⟩ := box5 y0 y1 y2 y3 y4 (.int .i64 k4) (.int .i64 a4) (.string t4) (.int .i64 n4) (.slice o4 l4 c4) _ rfl
  have hlo : w.heap.size < (w.alloc (Obj.cells #[.int .i64 0, .int .i64 0, .string ⟨#[]⟩, .int .i64 0, .slice none 0 0] 25)).heap.size := by rw [HZ.out]; exact Nat.lt_succ_self _
  have HB := Lib.hid (below_set5 (Below.chain HA.out hb2) (Nat.le_refl _) (.int .i64 k4) (.int .i64 a4) (.string t4) (.int .i64 n4) (.slice o4 l4 c4))
  have fr : From (w.alloc (Obj.cells #[.int .i64 0, .int .i64 0, .string ⟨#[]⟩, .int .i64 0, .slice none 0 0] 25)).heap.size w2 _ := (((((From.refl (w.alloc (Obj.cells #[.int .i64 0, .int .i64 0, .string ⟨#[]⟩, .int .i64 0, .slice none 0 0] 25)).heap.size w2).setCell ⟨w.heap.size, 0, none⟩ hlo (.int .i64 k4)).setCell ⟨w.heap.size, 1, none⟩ hlo (.int .i64 a4)).setCell ⟨w.heap.size, 2, none⟩ hlo (.string t4)).setCell ⟨w.heap.size, 3, none⟩ hlo (.int .i64 n4)).setCell ⟨w.heap.size, 4, none⟩ hlo (.slice o4 l4 c4)
  have GX := Lib.hid (hx.keep fr (Nat.le_of_lt hlo))
  clear hb2 hx yf yl fr hlo hm
  refine Lib.hid ?_
  go_wp2
  refine bodyPost_ret (by simp [results, Tryz.results16, go_sem, r0, r1, r2, r3, r4]; rfl) rfl ?_
  exact ⟨_, _, _, _, _, _, _, _, _, rfl, HB.out, GX.out⟩
set_option maxRecDepth 20000 in
set_option maxHeartbeats 1000000 in
theorem ppart3 (s : ByteArray) (n : Nat) (hn : n < 256) (hj : n % 4 = 3) (w : World) (ht : Lib.TabBelow Tryz.prog w.heap.size w "surveyor/lexer.classes" .u8 clsTab) (hev : EvAt w) : Calls Tryz.prog 16 #[.string s, .int .u8 (n : Int)] w (Ans 3 s w) := by
  have hA : Below w.heap.size w (w.alloc (Obj.cells #[.int .i64 0, .int .i64 0, .string ⟨#[]⟩, .int .i64 0, .slice none 0 0] 25)) := (Below.refl _ _).alloc (Nat.le_refl _) _
  have CS := pExpr s (w.alloc (Obj.cells #[.int .i64 0, .int .i64 0, .string ⟨#[]⟩, .int .i64 0, .slice none 0 0] 25)) (fun W hW => ht W (Below.chain hA hW)) (hev.below hA)
  have hX := Bx5.new w (.int .i64 0) (.int .i64 0) (.string ⟨#[]⟩) (.int .i64 0) (.slice none 0 0)
  have hz : (w.alloc (Obj.cells #[.int .i64 0, .int .i64 0, .string ⟨#[]⟩, .int .i64 0, .slice none 0 0] 25)).heap.size = w.heap.size + 1 := by simp
  have hm : ((n : Int)).tmod 4 = 3 := by
    have : ((n : Int)).tmod 4 = ((n % 4 : Nat) : Int) := by rw [Int.tmod_eq_emod_of_nonneg (by omega)]; omega
    rw [this, hj]; rfl
  have KS := Lib.hid CS; have HA := Lib.hid hA; have HX := Lib.hid hX; have HZ := Lib.hid hz
  clear CS hA hX ht hev hz hj
  go_enter Tryz.func16, Tryz.ntmps16
  go_wp2_with (go_at_call 26; refine (KS.out).mono ?_; rintro e w2 ⟨k4, a4, t4, n4, o4, l4, c4, a, c, rfl, hb2, hx⟩; refine Hid.out ?_)
  obtain ⟨y0, y1, y2, y3, y4, yf, yl⟩ := HX.out.below hb2
  have f0 := yf 0; have f1 := yf 1; have f2 := yf 2; have f3 := yf 3; have f4 := yf 4
  obtain ⟨r0, r1, r2, r3, r4⟩ := box5 y0 y1 y2 y3 y4 (.int .i64 k4) (.int .i64 a4) (.string t4) (.int .i64 n4) (.slice o4 l4 c4) _ rfl
  have hlo : w.heap.size < (w.alloc (Obj.cells #[.int .i64 0, .int .i64 0, .string ⟨#[]⟩, .int .i64 0, .slice none 0 0] 25)).heap.size := by rw [HZ.out]; exact Nat.lt_succ_self _
  have HB := Lib.hid (below_set5 (Below.chain HA.out hb2) (Nat.le_refl _) (.int .i64 k4) (.int .i64 a4) (.string t4) (.int .i64 n4) (.slice o4 l4 c4))
  have fr : From (w.alloc (Obj.cells #[.int .i64 0, .int .i64 0, .string ⟨#[]⟩, .int .i64 0, .slice none 0 0] 25)).heap.size w2 _ := (((((From.refl (w.alloc (Obj.cells #[.int .i64 0, .int .i64 0, .string ⟨#[]⟩, .int .i64 0, .slice none 0 0] 25)).heap.size w2).setCell ⟨w.heap.size, 0, none⟩ hlo (.int .i64 k4)).setCell ⟨w.heap.size, 1, none⟩ hlo (.int .i64 a4)).setCell ⟨w.heap.size, 2, none⟩ hlo (.string t4)).setCell ⟨w.heap.size, 3, none⟩ hlo (.int .i64 n4)).setCell ⟨w.heap.size, 4, none⟩ hlo (.slice o4 l4 c4)
  have GX := Lib.hid (hx.keep fr (Nat.le_of_lt hlo))
  clear hb2 hx yf yl fr hlo hm
  refine Lib.hid ?_
  go_wp2
  refine bodyPost_ret (by simp [results, Tryz.results16, go_sem, r0, r1, r2, r3, r4]; rfl) rfl ?_
  exact ⟨_, _, _, _, _, _, _, _, _, rfl, HB.out, GX.out⟩
theorem part_any (s : ByteArray) (n : Nat) (hn : n < 256) (w : World) (ht : Lib.TabBelow Tryz.prog w.heap.size w "surveyor/lexer.classes" .u8 clsTab) (hev : EvAt w) : Calls Tryz.prog 16 #[.string s, .int .u8 (n : Int)] w (Ans (n % 4) s w) := by
  have h4 : n % 4 < 4 := Nat.mod_lt _ (by decide)
  rcases (show n % 4 = 0 ∨ n % 4 = 1 ∨ n % 4 = 2 ∨ n % 4 = 3 by omega) with h | h | h | h
  · rw [h]; exact ppart0 s n hn h w ht hev
  · rw [h]; exact ppart1 s n hn h w ht hev
  · rw [h]; exact ppart2 s n hn h w ht hev
  · rw [h]; exact ppart3 s n hn h w ht hev
end Go.Proofs.YtdibcllakkjegaaGreatDoor
