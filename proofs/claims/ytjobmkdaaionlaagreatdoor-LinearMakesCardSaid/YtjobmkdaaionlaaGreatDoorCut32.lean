import Derived.Test.YtjobmkdaaionlaaGreatDoorCut30
import Derived.Test.YtjobmkdaaionlaaGreatDoorCut22
import Derived.OrdersHeld
import Derived.OrdersIn
import Derived.Deep.RegionHeld
import Derived.CallsIn
import Derived.RangeFuncCalls
import Derived.Test.YtjobmkdaaionlaaGreatDoorCut1
import Derived.Test.YtjobmkdaaionlaaGreatDoorCut12

set_option linter.unusedVariables false
/-
  linear: Substitute.
-/
set_option linter.unusedSimpArgs false
namespace Go.Proofs.YtjobmkdaaionlaaGreatDoor
open Go Go.Proofs Go.RowKit

theorem set_good {k : Nat} {m : List ByteArray} (h : ∀ s ∈ m, Good k s) (j : Nat) {z : ByteArray} (hz : Good k z) : ∀ s ∈ m.set j z, Good k s := fun s hs => by
  rcases List.mem_or_eq_of_mem_set hs with h1 | rfl
  · exact h s h1
  · exact hz
theorem map_good {i j : Nat} {m : List ByteArray} (h : ∀ s ∈ m, Good i s) {x : ByteArray} (hx : Good j x) : ∀ s ∈ m.map (fun s => mulT s x), Good (i + j) s := fun s hs => by
  obtain ⟨t, ht, rfl⟩ := List.mem_map.1 hs
  exact (h t ht).mul hx
/-- An expression with another one in place of variable j. -/
def subO (l : List ByteArray) (k : ByteArray) (j : Nat) (l2 : List ByteArray) (k2 : ByteArray) : LOut :=
  exprO (List.zipWith addT (l.set j z0) (l2.map fun s => mulT s (l.getD j ⟨#[]⟩))) (addT k (mulT k2 (l.getD j ⟨#[]⟩)))
def subAll (l : List ByteArray) (k : ByteArray) (i : Int) (l2 : List ByteArray) (k2 : ByteArray) : LOut :=
  if bothE (linE l k) (linE l2 k2) = 0 then (if l.length = l2.length then (if i < 0 ∨ (l.length : Int) ≤ i then .bad 6 else subO l k i.toNat l2 k2) else .bad 22) else .bad (bothE (linE l k) (linE l2 k2))

set_option maxHeartbeats 4000000 in
theorem linSub (l : List ByteArray) (k : ByteArray) (ao : Option Addr) (c : Nat) (i : Int) (l2 : List ByteArray) (k2 : ByteArray) (ao2 : Option Addr) (c2 : Nat) (w : World)
    (hr : SRow w ao c l) (hz : ∀ s ∈ l ++ [k], s.size ≤ 800000) (hn : l.length ≤ 1000000) (hr2 : SRow w ao2 c2 l2) (hz2 : ∀ s ∈ l2 ++ [k2], s.size ≤ 800000) (hn2 : l2.length ≤ 1000000) (htab : Lib.TabIs Tryz.prog w "internal/strconv.uint64pow10" .u64 Lib.pow10Tab) :
    Calls Tryz.prog 34 #[.agg #[.slice ao l.length c, .string k], .int .i64 i, .agg #[.slice ao2 l2.length c2, .string k2]] w (LinRet w.heap.size (subAll l k i l2 k2) w) := by
  have hT := Lib.tabBelow_of_tabIs htab
  have CB := fun (W : World) (hW : Below w.heap.size w W) => linCheckBoth l k ao c l2 k2 ao2 c2 W (hr.mono hW) hz hn (hr2.mono hW) hz2 hn2 (hT.on hW).here
  have CA := fun (W : World) (hW : Below w.heap.size w W) => numbersN l k ao c W (hr.mono hW) hn
  have CA2 := fun (W : World) (hW : Below w.heap.size w W) => numbersN l2 k2 ao2 c2 W (hr2.mono hW) hn2
  have hcs := bothE_cases (linE_cases l k) (linE_cases l2 k2)
  obtain ⟨X, Y, Z, B⟩ := entry3 w (.slice ao l.length c) (.string k) (.slice ao2 l2.length c2) (.string k2) (.slice none 0 0) (.string ⟨#[]⟩) 27
  unfold subAll
  by_cases h0 : bothE (linE l k) (linE l2 k2) = 0
  · rw [if_pos h0]
    obtain ⟨z1, z2⟩ := bothE_zero h0
    obtain ⟨g1, g2⟩ := linE_zero z1
    obtain ⟨g3, g4⟩ := linE_zero z2
    rw [h0] at CB
    by_cases hlen : l.length = l2.length
    · rw [if_pos hlen]
      by_cases hi : i < 0 ∨ (l.length : Int) ≤ i
      · rw [if_pos hi]
        clear hr hz hn hr2 hz2 hn2 htab hT CA CA2 hcs h0 z1 z2 g2 g4 g1 g3
        generalize l2.length = n2 at *
        generalize l.length = n at *
        subst hlen
        rcases hi with hi | hi
        · have hd : decide (i < 0) = true := by simpa using hi
          have KB := Lib.hid CB; clear CB
          go_enter Tryz.func34, Tryz.ntmps34
          go_wp2_with (go_at_call 52; refine (KB.out _ B).mono ?_; rintro e w1 ⟨rfl, hb1⟩; refine Hid.out ?_)
          have Z1 := Z.mono hb1; have X1 := X.mono hb1; have Y1 := Y.mono hb1
          have z0 := Z1.c0; have z1 := Z1.c1; have z2 := Z1.f0; have z3 := Z1.f1; have z4 := Z1.lt; have x0 := X1.c0; have y0 := Y1.c0
          have q := box2 Z1.c0 Z1.c1 (.slice none 0 0) (.string ⟨#[]⟩)
          have HBB := Lib.hid (below2 (p := w.heap.size + 1 + 1) (Below.chain B hb1) (by omega) (.slice none 0 0) (.string ⟨#[]⟩))
          clear hb1 X Y Z B X1 Y1 Z1
          refine Lib.hid ?_
          go_wp2
          obtain ⟨q1, q2⟩ := q
          refine bodyPost_ret (by simp [results, Tryz.results34, go_sem, q1, q2]; rfl) rfl ?_
          exact ⟨none, 0, rfl, RowB.nil _ _, HBB.out⟩
        · by_cases hi0 : i < 0
          · omega
          have hd : decide (i < 0) = false := by simpa using hi0
          have hd2 : decide ((n : Int) ≤ i) = true := by simpa using hi
          have KB := Lib.hid CB; clear CB
          go_enter Tryz.func34, Tryz.ntmps34
          go_wp2_with (go_at_call 52; refine (KB.out _ B).mono ?_; rintro e w1 ⟨rfl, hb1⟩; refine Hid.out ?_)
          have Z1 := Z.mono hb1; have X1 := X.mono hb1; have Y1 := Y.mono hb1
          have z0 := Z1.c0; have z1 := Z1.c1; have z2 := Z1.f0; have z3 := Z1.f1; have z4 := Z1.lt; have x0 := X1.c0; have y0 := Y1.c0
          have q := box2 Z1.c0 Z1.c1 (.slice none 0 0) (.string ⟨#[]⟩)
          have HBB := Lib.hid (below2 (p := w.heap.size + 1 + 1) (Below.chain B hb1) (by omega) (.slice none 0 0) (.string ⟨#[]⟩))
          clear hb1 X Y Z B X1 Y1 Z1
          refine Lib.hid ?_
          go_wp2
          obtain ⟨q1, q2⟩ := q
          refine bodyPost_ret (by simp [results, Tryz.results34, go_sem, q1, q2]; rfl) rfl ?_
          exact ⟨none, 0, rfl, RowB.nil _ _, HBB.out⟩
      rw [if_neg hi]
      obtain ⟨j, rfl⟩ := Int.eq_ofNat_of_zero_le (show 0 ≤ i by omega)
      rw [Int.toNat_natCast]
      have hj : j < l.length := by omega
      clear hi
      obtain ⟨bl, ol, rfl, hbl, hcl⟩ := hr.get j hj
      have hcell : ∀ W, Below w.heap.size w W → W.cell? ⟨bl, ol + j, none⟩ = some (.string (l.getD j ⟨#[]⟩)) := fun W hW => by
        rw [getD_get l hj]; exact (hW.cell (p := ⟨bl, ol + j, none⟩) hbl).trans hcl
      have hgj : Good 100 (l.getD j ⟨#[]⟩) := by rw [getD_get l hj]; exact g2 _ (by simp)
      have hm1 : (l ++ [k]).set j z0 = l.set j z0 ++ [k] := List.set_append_left _ _ hj
      have gm1 : ∀ s ∈ (l ++ [k]).set j z0, Good 100 s := set_good g2 j (good0 (by decide))
      have gm2 := map_good g4 hgj
      have CM : ∀ (W : World) (gb cb : Nat), Below w.heap.size w W → SRow W (some ⟨gb, 0, none⟩) cb (l2 ++ [k2]) → Calls Tryz.prog 68 #[.slice (some ⟨gb, 0, none⟩) (l2 ++ [k2]).length cb, .string (l.getD j ⟨#[]⟩)] W fun e w' => ∃ g, e = .returned (.slice (some ⟨g, 0, none⟩) (l.length + 1) (l.length + 1)) ∧ SRow w' (some ⟨g, 0, none⟩) (l.length + 1) ((l2 ++ [k2]).map fun s => mulT s (l.getD j ⟨#[]⟩)) ∧ W.heap.size ≤ g ∧ Below W.heap.size W w' := fun W gb cb hW r =>
        (multiple_any (l2 ++ [k2]) (l.getD j ⟨#[]⟩) (some ⟨gb, 0, none⟩) cb 100 100 W r (by simp; omega) g4 hgj (by decide) (hT.on hW).here).mono fun e w' ⟨g, h1, h2, h3, h4⟩ => ⟨g, by rw [h1]; simp [hlen], h2.row (by simp [hlen]) (by omega), h3, h4⟩
      have CS : ∀ (W : World) (ga ca gb : Nat), Below w.heap.size w W → SRow W (some ⟨ga, 0, none⟩) ca ((l ++ [k]).set j z0) → SRow W (some ⟨gb, 0, none⟩) (l.length + 1) ((l2 ++ [k2]).map fun s => mulT s (l.getD j ⟨#[]⟩)) → Calls Tryz.prog 53 #[.slice (some ⟨ga, 0, none⟩) (l ++ [k]).length ca, .slice (some ⟨gb, 0, none⟩) (l.length + 1) (l.length + 1)] W fun e w' => ∃ g, e = .returned (.slice (some ⟨g, 0, none⟩) (l.length + 1) (l.length + 1)) ∧ SRow w' (some ⟨g, 0, none⟩) (l.length + 1) (List.zipWith addT (l.set j z0) (l2.map fun s => mulT s (l.getD j ⟨#[]⟩)) ++ [addT k (mulT k2 (l.getD j ⟨#[]⟩))]) ∧ W.heap.size ≤ g ∧ Below W.heap.size W w' := fun W ga ca gb hW r1 r2 => by
        have := sum_any ((l ++ [k]).set j z0) ((l2 ++ [k2]).map fun s => mulT s (l.getD j ⟨#[]⟩)) (some ⟨ga, 0, none⟩) ca gb 0 (l.length + 1) 100 200 W r1 r2 (by simp; omega) (by simp [hlen]) gm1 gm2 (by decide) (hT.on hW).here
        rw [show ((l ++ [k]).set j z0).length = (l ++ [k]).length by simp, show ((l2 ++ [k2]).map fun s => mulT s (l.getD j ⟨#[]⟩)).length = l.length + 1 by simp [hlen]] at this
        refine this.mono fun e w' ⟨g, h1, h2, h3, h4⟩ => ?_
        rw [hm1, List.map_append, List.map_cons, List.map_nil, zip_snoc _ _ _ _ _ (by simp [hlen])] at h2
        exact ⟨g, by rw [h1]; simp, h2.row (by simp [hlen]) (by omega), h3, h4⟩
      have CE : ∀ (W : World) (g : Nat), Below w.heap.size w W → w.heap.size + 1 + 1 < g → SRow W (some ⟨g, 0, none⟩) (l.length + 1) (List.zipWith addT (l.set j z0) (l2.map fun s => mulT s (l.getD j ⟨#[]⟩)) ++ [addT k (mulT k2 (l.getD j ⟨#[]⟩))]) → Calls Tryz.prog 46 #[.slice (some ⟨g, 0, none⟩) (l.length + 1) (l.length + 1)] W (LinRet (w.heap.size + 1 + 1 + 1) (subO l k j l2 k2) W) := fun W g hW hg r => by
        have hl : (List.zipWith addT (l.set j z0) (l2.map fun s => mulT s (l.getD j ⟨#[]⟩))).length = l.length := by simp [hlen]
        have gg : ∀ s ∈ List.zipWith addT (l.set j z0) (l2.map fun s => mulT s (l.getD j ⟨#[]⟩)) ++ [addT k (mulT k2 (l.getD j ⟨#[]⟩))], Good 301 s := by
          have := zip_good gm1 gm2
          rwa [hm1, List.map_append, List.map_cons, List.map_nil, zip_snoc _ _ _ _ _ (by simp [hlen])] at this
        have := expression_any (List.zipWith addT (l.set j z0) (l2.map fun s => mulT s (l.getD j ⟨#[]⟩))) (addT k (mulT k2 (l.getD j ⟨#[]⟩))) (some ⟨g, 0, none⟩) (l.length + 1) W r (good_sz gg (by decide)) (by omega) (w.heap.size + 1 + 1 + 1) (fun a ha => by cases ha; exact hg)
        rwa [hl] at this
      have hj1 : j < (l ++ [k]).length := by simp; omega
      clear hr hz hn hr2 hz2 hn2 htab hT hcs h0 z1 z2 g2 g4 gm1 gm2 hm1 hgj hcl
      have HBLW := Lib.hid hbl; clear hbl
      generalize subO l k j l2 k2 = O at *
      generalize List.zipWith addT (l.set j z0) (l2.map fun s => mulT s (l.getD j ⟨#[]⟩)) ++ [addT k (mulT k2 (l.getD j ⟨#[]⟩))] = m3 at *
      generalize l.getD j ⟨#[]⟩ = lj at *
      have e1 : (l ++ [k]).length = l.length + 1 := by simp
      have e2 : (l2 ++ [k2]).length = l.length + 1 := by simp [hlen]
      unfold NumRet at CA CA2
      rw [e1] at CA CS
      rw [e2] at CA2 CM
      generalize ((l2 ++ [k2]).map fun s => mulT s lj) = m4 at *
      generalize l ++ [k] = m1 at *
      generalize l2 ++ [k2] = m2 at *
      have E1 := Lib.hid e1; clear e1 e2 g3
      generalize l2.length = n2 at *
      generalize l.length = n at *
      subst hlen
      have KB := Lib.hid CB; have KA := Lib.hid CA; have KA2 := Lib.hid CA2; have KM := Lib.hid CM; have KS := Lib.hid CS; have KE := Lib.hid CE; have KL := Lib.hid hcell; have HJ1 := Lib.hid hj1; clear CB CA CA2 CS CE CM hcell hj1
      have hd : decide ((j : Int) < 0) = false := by simp
      have hd2 : decide (n ≤ j) = false := by simpa using hj
      go_enter Tryz.func34, Tryz.ntmps34
      go_wp2_with (go_at_call 52; refine (KB.out _ B).mono ?_; rintro e w1 ⟨rfl, hb1⟩; refine Hid.out ?_)
      have X1 := X.mono hb1; have Y1 := Y.mono hb1; have Z1 := Z.mono hb1
      have hB1 := Below.chain B hb1
      have x0 := X1.c0; have x1 := X1.c1; have y0 := Y1.c0; have y1 := Y1.c1
      clear hb1 X Y Z B
      refine Lib.hid ?_
      go_wp2_with (go_at_call 54; refine (KA.out _ hB1).mono ?_; rintro e w2 ⟨ga, ca, rfl, ba, -, ha1, ha2, ha3, hb2⟩; refine Hid.out ?_)
      have sa : SBlk 22 (w2.setCell ⟨ga, j, none⟩ (.string ⟨#[48]⟩)) ga (m1.set j z0) := ba.set j HJ1.out z0
      have cs := ba.cell j HJ1.out
      have fs := ba.frozen j
      generalize m1[j]'HJ1.out = old at cs
      have hbW : Below w1.heap.size w1 (w2.setCell ⟨ga, j, none⟩ (.string ⟨#[48]⟩)) := hb2.setCell ha3 _
      have ra := sa.row (c := ca) (by rw [List.length_set, E1.out]; exact ha1) ha2
      have hj3 : (j : Int) < (n : Int) + 1 := by omega
      have KW := Lib.hid hbW; have RA := Lib.hid ra
      clear hbW ra sa ba hb2 x0 x1 y0 y1
      refine Lib.hid ?_
      go_wp2_with fail
      have hbW := KW.out; have ra := RA.out
      clear KW RA cs fs
      generalize w2.setCell ⟨ga, j, none⟩ (.string ⟨#[48]⟩) = W2 at *
      have X2 := X1.mono hbW; have Y2 := Y1.mono hbW; have Z2 := Z1.mono hbW; have hB2 := Below.chain hB1 hbW
      have K : ∀ W : World, Below W2.heap.size W2 W → (((W.cell? ⟨w.heap.size, 0, none⟩ = some (.slice (some ⟨bl, ol, none⟩) n c) ∧ W.cell? ⟨w.heap.size, 1, none⟩ = some (.string k)) ∧ (W.cell? ⟨w.heap.size + 1, 0, none⟩ = some (.slice ao2 n c2) ∧ W.cell? ⟨w.heap.size + 1, 1, none⟩ = some (.string k2))) ∧ W.cell? ⟨bl, ol + j, none⟩ = some (.string lj)) ∧ Below w.heap.size w W ∧ Bx2 W (w.heap.size + 1 + 1) (.slice none 0 0) (.string ⟨#[]⟩) ∧ SRow W (some ⟨ga, 0, none⟩) ca (m1.set j z0) := fun W hW =>
        ⟨⟨⟨⟨(X2.mono hW).c0, (X2.mono hW).c1⟩, ⟨(Y2.mono hW).c0, (Y2.mono hW).c1⟩⟩, KL.out _ (Below.chain hB2 hW)⟩, Below.chain hB2 hW, Z2.mono hW, ra.mono hW⟩
      have KK := Lib.hid K; clear K X1 Y1 Z1 hB1 X2 Y2 Z2 hB2 hbW ra
      have NW : Below W2.heap.size W2 W2.drew := (Below.refl _ _).drew
      have HP := Lib.hid ((KK.out _ NW).2.2.1.lt)
      have hj2 : (j : Int) < (n : Int) := by omega
      have hblw := HBLW.out
      go_region_held3 (fun w' => ((w'.cell? ⟨w.heap.size, 0, none⟩ = some (.slice (some ⟨bl, ol, none⟩) n c) ∧ w'.cell? ⟨w.heap.size, 1, none⟩ = some (.string k)) ∧ (w'.cell? ⟨w.heap.size + 1, 0, none⟩ = some (.slice ao2 n c2) ∧ w'.cell? ⟨w.heap.size + 1, 1, none⟩ = some (.string k2))) ∧ w'.cell? ⟨bl, ol + j, none⟩ = some (.string lj))
        (first | (with_reducible exact (KK.out _ NW).1) | (with_reducible exact ⟨keep4 (keep4 (KK.out _ NW).1.1 (by omega) (by omega)) (by omega) (by omega), (World.cell?_setCell_far _ _ _ _ (by simp; omega)).trans ((World.cell?_setCell_far _ _ _ _ (by simp; omega)).trans (KK.out _ NW).1.2)⟩))
        (first
        | (go_at_call 54; (with_reducible refine (KA2.out _ (KK.out _ NW).2.1).mono ?_); rintro e wb ⟨gb, cb, rfl, -, rb, -, -, -, hb⟩; have NW := Below.chain NW hb)
        | (go_at_call 68; (with_reducible refine (KM.out _ gb cb (KK.out _ NW).2.1 rb).mono ?_); rintro e wm ⟨gm, rfl, rm, -, hm⟩; have NW := Below.chain NW hm)
        | (go_at_call 53; (with_reducible refine (KS.out _ ga ca gm (KK.out _ NW).2.1 (KK.out _ NW).2.2.2 rm).mono ?_); rintro e wz ⟨gz, rfl, rz, hgz, hz⟩; have hgz := Nat.lt_of_lt_of_le (KK.out _ NW).2.2.1.lt hgz; have NW := Below.chain NW hz)
        | (go_at_call 46; (with_reducible refine (KE.out _ gz (KK.out _ NW).2.1 hgz rz).mono ?_); rintro e we ⟨ae, ce, rfl, re, he⟩; have NW := Below.chain NW he; have z0 := (KK.out _ NW).2.2.1.c0; have z1 := (KK.out _ NW).2.2.1.c1; have z2 := (KK.out _ NW).2.2.1.f0; have z3 := (KK.out _ NW).2.2.1.f1; have z4 := (KK.out _ NW).2.2.1.lt))
      all_goals
        have q := (KK.out _ NW).2.2.1
        have HR := Lib.hid ((re.set (p := w.heap.size + 1 + 1) (by omega) 0 (.slice ae O.l.length ce)).set (p := w.heap.size + 1 + 1) (by omega) 1 (.string O.k))
        have HBB := Lib.hid (below2 (p := w.heap.size + 1 + 1) (KK.out _ NW).2.1 (by omega) (.slice ae O.l.length ce) (.string O.k))
        obtain ⟨q1, q2⟩ := box2 q.c0 q.c1 (.slice ae O.l.length ce) (.string O.k)
        clear q
        go_wp2
        refine bodyPost_ret (v := .tuple #[.agg #[.slice ae O.l.length ce, .string O.k], .int .i64 (O.e : Nat)]) (by simp [results, Tryz.results34, go_sem, q1, q2]) rfl ?_
        exact ⟨ae, ce, rfl, HR.out.lower (by omega), HBB.out⟩
    · rw [if_neg hlen]
      clear hcs h0 z1 z2 g2 g4 g1 g3 hr hz hn hr2 hz2 hn2 htab hT CA CA2
      generalize l.length = n at *
      generalize l2.length = n2 at *
      have KB := Lib.hid CB; clear CB
      go_enter Tryz.func34, Tryz.ntmps34
      go_wp2_with (go_at_call 52; refine (KB.out _ B).mono ?_; rintro e w1 ⟨rfl, hb1⟩; refine Hid.out ?_)
      have Z1 := Z.mono hb1; have X1 := X.mono hb1; have Y1 := Y.mono hb1
      have z0 := Z1.c0; have z1 := Z1.c1; have z2 := Z1.f0; have z3 := Z1.f1; have z4 := Z1.lt; have x0 := X1.c0; have y0 := Y1.c0
      have q := box2 Z1.c0 Z1.c1 (.slice none 0 0) (.string ⟨#[]⟩)
      have HBB := Lib.hid (below2 (p := w.heap.size + 1 + 1) (Below.chain B hb1) (by omega) (.slice none 0 0) (.string ⟨#[]⟩))
      clear hb1 X Y Z B X1 Y1 Z1
      refine Lib.hid ?_
      go_wp2
      obtain ⟨q1, q2⟩ := q
      refine bodyPost_ret (by simp [results, Tryz.results34, go_sem, q1, q2]; rfl) rfl ?_
      exact ⟨none, 0, rfl, RowB.nil _ _, HBB.out⟩
  · rw [if_neg h0]
    rcases hcs with h | h | h | h
    · exact absurd h h0
    all_goals
      rw [h] at CB ⊢
      clear h0 h hr hz hn hr2 hz2 hn2 htab hT CA CA2
      generalize l.length = n at *
      generalize l2.length = n2 at *
      have KB := Lib.hid CB; clear CB
      go_enter Tryz.func34, Tryz.ntmps34
      go_wp2_with (go_at_call 52; refine (KB.out _ B).mono ?_; rintro e w1 ⟨rfl, hb1⟩; refine Hid.out ?_)
      have Z1 := Z.mono hb1; have X1 := X.mono hb1; have Y1 := Y.mono hb1
      have z0 := Z1.c0; have z1 := Z1.c1; have z2 := Z1.f0; have z3 := Z1.f1; have z4 := Z1.lt; have x0 := X1.c0; have y0 := Y1.c0
      have q := box2 Z1.c0 Z1.c1 (.slice none 0 0) (.string ⟨#[]⟩)
      have HBB := Lib.hid (below2 (p := w.heap.size + 1 + 1) (Below.chain B hb1) (by omega) (.slice none 0 0) (.string ⟨#[]⟩))
      clear hb1 X Y Z B X1 Y1 Z1
      refine Lib.hid ?_
      go_wp2
      obtain ⟨q1, q2⟩ := q
      refine bodyPost_ret (by simp [results, Tryz.results34, go_sem, q1, q2]; rfl) rfl ?_
      exact ⟨none, 0, rfl, RowB.nil _ _, HBB.out⟩
end Go.Proofs.YtjobmkdaaionlaaGreatDoor

/-
  linear: commonDenominator.
-/
set_option linter.unusedSimpArgs false
namespace Go.Proofs.YtjobmkdaaionlaaGreatDoor
open Go Go.Proofs Go.RowKit

theorem lcmI_nat (a b : Nat) : lcmI (a : Int) (b : Int) = (Nat.lcm a b : Nat) := by
  unfold lcmI gcdI
  rw [show Int.gcd (a : Int) (b : Int) = Nat.gcd a b from rfl, Int.fdiv_eq_ediv_of_nonneg _ (Int.natCast_nonneg _), ← Int.natCast_ediv, ← Int.natCast_mul, Int.natAbs_natCast]
  unfold Nat.lcm
  rw [Nat.div_mul_right_comm (Nat.gcd_dvd_left a b)]
/-- The least common denominator. -/
def lcmD (m : List ByteArray) : Nat := m.foldl (fun d s => Nat.lcm d (rv s).den) 1
theorem lcmD_take (m : List ByteArray) (j : Nat) (h : j < m.length) : lcmD (m.take (j + 1)) = Nat.lcm (lcmD (m.take j)) (rv m[j]).den := by
  unfold lcmD; rw [← List.take_append_getElem h, List.foldl_append]; rfl
theorem lcm_le (a b : Nat) : Nat.lcm a b ≤ a * b := by unfold Nat.lcm; exact Nat.div_le_self _ _
theorem lcmD_lt (m : List ByteArray) (hg : ∀ s ∈ m, Good 100 s) (j : Nat) (hj : j ≤ m.length) : lcmD (m.take j) < 10 ^ (100 * j + 1) := by
  induction j with
  | zero => rw [List.take_zero]; unfold lcmD; simp
  | succ j ih =>
    rw [lcmD_take m j (by omega)]
    have h1 := ih (by omega)
    have h2 : (rv m[j]).den < 10 ^ 100 := by
      have := (hg _ (List.getElem_mem (show j < m.length by omega))).rz.den
      unfold Sz at this; rwa [Int.natAbs_natCast] at this
    refine Nat.lt_of_le_of_lt (lcm_le _ _) ?_
    rw [show 100 * (j + 1) + 1 = (100 * j + 1) + 100 by omega, Nat.pow_add]
    exact Nat.mul_lt_mul'' h1 h2
/-- The text of a natural number. -/
def itN (d : Nat) : ByteArray := str (Lib.itoa (d : Int))
theorem itN_tq (d : Nat) : itN d = tq ((d : Int) : Rat) := by unfold itN tq; rw [ratL_int]
theorem good_nat {k d : Nat} (h : d < 10 ^ k) (h0 : 0 < k) : Good k (itN d) := by
  rw [itN_tq]
  refine Good.tq ⟨?_, ?_⟩
  · rw [Rat.num_intCast]; unfold Sz; rwa [Int.natAbs_natCast]
  · rw [Rat.den_intCast]; unfold Sz; exact Nat.one_lt_pow (by omega) (by decide)
theorem lcmD_good (m : List ByteArray) (hg : ∀ s ∈ m, Good 100 s) : Good (100 * m.length + 1) (itN (lcmD m)) := by
  have := lcmD_lt m hg m.length (Nat.le_refl _)
  rw [List.take_length] at this
  exact good_nat this (by omega)
theorem str_nat {k d : Nat} (h : d < 10 ^ k) (h0 : 0 < k) (hk : k ≤ 4096) : Str (itN d) (d : Int) := ⟨bytes_str _, by rw [Int.natAbs_natCast]; exact Nat.le_trans (decDigits_length_le _ k h0 h) hk⟩
theorem lcmN (d e : Nat) (i j : Nat) (hd : d < 10 ^ i) (he : e < 10 ^ j) (hi : 0 < i) (hj : 0 < j) (hk : i + j ≤ 4096) (w : World) (htab : Lib.TabIs Tryz.prog w "internal/strconv.uint64pow10" .u64 Lib.pow10Tab) :
    Calls Tryz.prog 86 #[.string (itN d), .string (itN e)] w (Bret (.tuple #[.string (itN (Nat.lcm d e)), .int .i64 0]) w) := by
  have h1 := str_nat hd hi (by omega)
  have h2 := str_nat he hj (by omega)
  have := bigLcmR (itN d) (itN e) w (by have := h1.size; omega) (by have := h2.size; omega) htab
  have hl : Nat.lcm d e < 10 ^ (i + j) := Nat.lt_of_le_of_lt (lcm_le _ _) (by rw [Nat.pow_add]; exact Nat.mul_lt_mul'' hd he)
  have e3 : opR lcmI (bytes (itN d)) (bytes (itN e)) = .tuple #[.string (itN (Nat.lcm d e)), .int .i64 0] := by
    unfold opR errBoth
    rw [h1.err, if_pos rfl, h2.err, if_pos rfl, h1.text, h2.text, valZ_itoa, valZ_itoa, lcmI_nat]
    exact resV_fits (by have := (str_nat hl (by omega) hk).len; omega)
  rwa [e3] at this
theorem denG {k : Nat} {s : ByteArray} (h : Good k s) (hk : k ≤ 4096) (w : World) (htab : Lib.TabIs Tryz.prog w "internal/strconv.uint64pow10" .u64 Lib.pow10Tab) :
    Calls Tryz.prog 85 #[.string s] w (Bret (.tuple #[.string (itN (rv s).den), .int .i64 0]) w) :=
  ratDenS s (rv s) w (h.rstr hk) (by have := h.size hk; omega) htab

set_option maxHeartbeats 2000000 in
theorem common_any (m : List ByteArray) (ao : Option Addr) (c : Nat) (w : World) (hr : SRow w ao c m) (hn : m.length ≤ 33) (hg : ∀ s ∈ m, Good 100 s) (htab : Lib.TabIs Tryz.prog w "internal/strconv.uint64pow10" .u64 Lib.pow10Tab) :
    Calls Tryz.prog 58 #[.slice ao m.length c] w (Bret (.string (itN (lcmD m))) w) := by
  have hT := Lib.tabBelow_of_tabIs htab
  have hget : ∀ W, Below w.heap.size w W → ∀ j (hj : j < m.length), ∃ b off, ao = some ⟨b, off, none⟩ ∧ b < W.heap.size ∧ W.cell? ⟨b, off + j, none⟩ = some (.string (m[j]'hj)) := fun W hW => (hr.mono hW).get
  have CD : ∀ (W : World) (j : Nat) (hj : j < m.length), Below w.heap.size w W → Calls Tryz.prog 85 #[.string (m[j]'hj)] W (Bret (.tuple #[.string (itN (rv (m[j]'hj)).den), .int .i64 0]) W) := fun W j hj hW => denG (hg _ (List.getElem_mem hj)) (by decide) W (hT.on hW).here
  have CL : ∀ (W : World) (j : Nat) (hj : j < m.length), Below w.heap.size w W → Calls Tryz.prog 86 #[.string (itN (lcmD (m.take j))), .string (itN (rv (m[j]'hj)).den)] W (Bret (.tuple #[.string (itN (lcmD (m.take (j + 1)))), .int .i64 0]) W) := fun W j hj hW => by
    rw [lcmD_take m j hj]
    have h2 : (rv m[j]).den < 10 ^ 100 := by
      have := (hg _ (List.getElem_mem hj)).rz.den
      unfold Sz at this; rwa [Int.natAbs_natCast] at this
    exact lcmN _ _ (100 * j + 1) 100 (lcmD_lt m hg j (by omega)) h2 (by omega) (by decide) (by omega) W (hT.on hW).here
  have hend : itN (lcmD (m.take m.length)) = itN (lcmD m) := by rw [List.take_length]
  have h0 : itN (lcmD (m.take 0)) = ⟨#[49]⟩ := by rw [List.take_zero]; exact lit_str s1
  have KG := Lib.hid hget; have KD := Lib.hid CD; have KL := Lib.hid CL; clear hget CD CL hr hg hT htab
  generalize itN (lcmD m) = res at *
  have HEND := Lib.hid hend; have H0 := Lib.hid h0; clear hend h0
  generalize hlen : m.length = n at hn ⊢
  have HLEN := Lib.hid hlen; clear hlen
  go_enter Tryz.func58, Tryz.ntmps58
  go_wp2_with fail
  go_loopw [3, 10] (fun cv iv wr => ∃ j : Nat, j ≤ n ∧ iv = .int .i64 j ∧ cv = .string (itN (lcmD (m.take j))) ∧ Below w.heap.size w wr) (fun _ iv _ => n - (intOf iv).toNat)
  case atStart => exact ⟨0, Nat.zero_le _, rfl, by rw [H0.out], Below.refl _ _⟩
  case round =>
    obtain ⟨j, hj, rfl, rfl, hbw⟩ := hrel
    have HB := Lib.hid hbw; clear hbw
    by_cases hlt : j < n
    · have hlt' : j < m.length := by rw [HLEN.out]; exact hlt
      obtain ⟨b, off, rfl, hbl, ck⟩ := KG.out wr HB.out j hlt'
      have C1 := KD.out wr j hlt' HB.out
      have C2 := fun W hW => KL.out W j hlt' hW
      generalize itN (rv (m[j]'hlt')).den = sd at *
      generalize itN (lcmD (m.take j)) = sa at *
      generalize hsb : itN (lcmD (m.take (j + 1))) = sb at *
      have HSB := Lib.hid hsb; clear hsb
      generalize m[j]'hlt' = sk at *
      have K1 := Lib.hid C1; have K2 := Lib.hid C2; clear C1 C2
      go_wp2_with (go_at_call 85; refine K1.out.mono ?_; rintro e w1 ⟨rfl, hb1⟩; refine Hid.out ?_)
      have hB1 := Below.chain HB.out hb1; clear hb1 ck
      refine Lib.hid ?_
      go_wp2_with (go_at_call 86; refine (K2.out _ hB1).mono ?_; rintro e w2 ⟨rfl, hb2⟩; refine Hid.out ?_)
      have HB2 := Lib.hid (Below.chain hB1 hb2); clear hb2 hB1
      refine Lib.hid ?_
      go_wp2
      exact ⟨⟨j + 1, by omega, by go_num, by rw [HSB.out], HB2.out⟩, by simp [intOf]; omega⟩
    · have hjn : j = n := by omega
      subst hjn
      have he := HEND.out
      rw [HLEN.out] at he
      rw [he]
      clear he
      go_wp2
      refine bodyPost_ret (v := .string res) (by simp [results, Tryz.results58, go_sem]) rfl ?_
      exact ⟨rfl, HB.out⟩
end Go.Proofs.YtjobmkdaaionlaaGreatDoor

/-
  linear: Scale, Constant, Variable.
-/
set_option linter.unusedSimpArgs false
namespace Go.Proofs.YtjobmkdaaionlaaGreatDoor
open Go Go.Proofs Go.RowKit

def sizeB (n : Int) : Bool := decide (0 ≤ n) && decide (n ≤ 32)
set_option maxHeartbeats 1000000 in
theorem isSize_any (n : Int) (w : World) : Calls Tryz.prog 44 #[.int .i64 n] w fun e w' => e = .returned (.bool (sizeB n)) ∧ w' = w := by
  unfold sizeB
  by_cases h1 : 0 ≤ n
  · by_cases h2 : n ≤ 32
    · rw [decide_eq_true h1, decide_eq_true h2]
      go_enter Tryz.func44, Tryz.ntmps44
      go_wp2
      refine bodyPost_ret (v := .bool true) (by simp [results, Tryz.results44, go_sem] <;> omega) rfl ?_
      exact ⟨rfl, rfl⟩
    · rw [decide_eq_true h1, decide_eq_false h2]
      go_enter Tryz.func44, Tryz.ntmps44
      go_wp2
      refine bodyPost_ret (v := .bool false) (by simp [results, Tryz.results44, go_sem] <;> omega) rfl ?_
      exact ⟨rfl, rfl⟩
  · rw [decide_eq_false h1, Bool.false_and]
    go_enter Tryz.func44, Tryz.ntmps44
    go_wp2
    refine bodyPost_ret (v := .bool false) (by simp [results, Tryz.results44, go_sem] <;> omega) rfl ?_
    exact ⟨rfl, rfl⟩
end Go.Proofs.YtjobmkdaaionlaaGreatDoor

/-
  A region that draws its order, within a round of a range over a function, by the laws for regions outside of rounds.
-/
namespace Go.Proofs.YtjobmkdaaionlaaGreatDoor
open Go Go.Proofs Go.RowKit

theorem rowsIn_wide' {n : Nat} {P : Program} {row : String} {args : Array Value} {w : World} {R : Value → World → Prop} (h : Rows P row args w R) : RowsIn Fence.wide n P row args w R := fun c cs _ => by
  obtain ⟨v, w', r, s⟩ := h c cs
  exact ⟨v, w', r, stepsIn_wide.2 s⟩
theorem uponIn_of_upon {l n : Nat} {P : Program} {o : Oper} {a : Act} {K : Act → World → Prop} {Q : Exit → Act → World → Prop} {r : Result Next} (h : o.upon P a K Q r) : o.uponIn (Fence.wide.inRound l) n P a K Q r := by
  cases r with
  | ok x w' =>
    cases x with
    | value v => exact h
    | skip => exact h
    | defer d => exact h
    | enter f args => exact ⟨(fun h => by cases h), CallsIn.inRound l (callsIn_wide.2 h)⟩
    | row row args => exact ⟨(fun h => by cases h), rowsIn_wide' h⟩
    | _ => exact h.elim
  | halt x w' => cases x <;> exact h
theorem anyIn_of_any {l n : Nat} {P : Program} {md : Region.Mode} {ops : Array Oper} {Q : Exit → Act → World → Prop} (hd : ∀ (i : Nat) (o : Oper), ops[i]? = some o → ∀ c, o.op ≠ .defer c) (hQ : ¬ LetsOut Q) :
    ∀ (fuel : Nat) (listed : Array Bool) (a : Act) (w : World), wpAny P md ops Q fuel listed a w → wpAnyIn (Fence.wide.inRound l) n P md ops Q fuel listed a w
  | 0, _, _, _, h => h
  | fuel + 1, listed, a, w, h => ⟨h.1, fun i hi => by
    have h2 := h.2 i hi
    unfold wpOp at h2
    unfold wpOpIn
    cases ho : ops[i]? with
    | none => rw [ho] at h2; exact anyIn_of_any hd hQ fuel _ _ _ h2
    | some o =>
      rw [ho] at h2
      simp only at h2 ⊢
      split
      · next hw =>
        rw [if_pos hw] at h2
        rcases h2 with h2 | ⟨-, h2⟩
        · refine ⟨fun _ _ => trivial, ?_⟩
          rw [Oper.semAt_eq _ _ _ (hd i o ho)]
          refine uponIn_of_upon ?_
          exact Oper.wp_mono (fun a' w' h3 => anyIn_of_any hd hQ fuel _ _ _ h3) h2
        · exact absurd h2 hQ
      · next hw =>
        rw [if_neg hw] at h2
        exact ⟨fun _ _ => trivial, anyIn_of_any hd hQ fuel _ _ _ h2⟩⟩
def isDefer : Op → Bool
  | .defer _ => true
  | _ => false
theorem noDefer {ops : Array Oper} (h : ops.all (fun o => !isDefer o.op) = true) (i : Nat) (o : Oper) (ho : ops[i]? = some o) (c : _) : o.op ≠ .defer c := fun e => by
  obtain ⟨hi, rfl⟩ := Array.getElem?_eq_some_iff.1 ho
  have := (Array.all_eq_true.1 h) i hi
  rw [e] at this
  simp [isDefer] at this
end Go.Proofs.YtjobmkdaaionlaaGreatDoor

/-
  A region that draws its order: loads may be taken first though hot operations write their cells, if these wait for the loads; what yields in every world may be taken first at any time.
-/
namespace Go.Proofs.YtjobmkdaaionlaaGreatDoor
open Go Go.Proofs Go.RowKit

section
variable {P : Program} {ops : Array Oper} {Q : Exit → Act → World → Prop} {md : Region.Mode} {S : World → Prop} {hot : Nat → Bool}

/-- No hot operation has come up. -/
def calmB (hot : Nat → Bool) (listed : Array Bool) : Bool := (List.range listed.size).all fun j => !hot j || !listed.getD j false
theorem calmB_spec {listed : Array Bool} (h : calmB hot listed = true) (j : Nat) (hj : hot j = true) : listed.getD j false = false := by
  unfold calmB at h
  rw [List.all_eq_true] at h
  rcases Nat.lt_or_ge j listed.size with q | q
  · have := h j (List.mem_range.2 q)
    rw [hj] at this
    simpa using this
  · simp [Array.getElem?_eq_none q]
theorem calmB_of {listed : Array Bool} (h : ∀ j, hot j = true → listed.getD j false = false) : calmB hot listed = true := by
  unfold calmB
  rw [List.all_eq_true]
  intro j _
  cases hj : hot j
  · rfl
  · rw [h j hj]; rfl
theorem calmB_drop {listed : Array Bool} {i : Nat} (h : calmB hot (listed.setIfInBounds i true) = true) : calmB hot listed = true := calmB_of fun j hj => by
  have := calmB_spec h j hj
  rcases Decidable.em (i = j) with rfl | hne
  · rcases Nat.lt_or_ge i listed.size with q | q
    · simp [q] at this
    · simp [Array.getElem?_eq_none q]
  · rwa [getD_set_ne false hne] at this
theorem calmB_set {listed : Array Bool} {i : Nat} (hi : hot i = false) (h : calmB hot listed = true) : calmB hot (listed.setIfInBounds i true) = true := calmB_of fun j hj => by
  have hne : i ≠ j := fun e => by subst e; rw [hi] at hj; cases hj
  rw [getD_set_ne false hne]; exact calmB_spec h j hj

/-- Whatever order is picked from here on; S holds till a hot operation comes up. -/
def wpAnyM (P : Program) (md : Region.Mode) (ops : Array Oper) (Q : Exit → Act → World → Prop) (S : World → Prop) (hot : Nat → Bool) : Nat → Array Bool → Act → World → Prop
  | 0, listed, a, w => Region.ready md ops listed = [] ∧ Q .normal a w
  | k + 1, listed, a, w =>
    (Region.ready md ops listed = [] → Q .normal a w) ∧
    ∀ i ∈ Region.ready md ops listed, wpOp P ops Q i (fun a' w' => (calmB hot (listed.setIfInBounds i true) = true → S w') ∧ wpAnyM P md ops Q S hot k (listed.setIfInBounds i true) a' w') a w
theorem any_of_hot : ∀ (k : Nat) (listed : Array Bool) (a : Act) (w : World), wpAnyM P md ops Q S hot k listed a w → wpAny P md ops Q k listed a w
  | 0, _, _, _, h => h
  | k + 1, _, _, _, h => ⟨h.1, fun i hi => wpOp_mono (fun a' w' g => any_of_hot k _ a' w' g.2) (h.2 i hi)⟩

/-- An operation is taken first: one that yields where S holds, for which all hot ones wait, or one that yields in every world. -/
theorem hot_first {i : Nat} {oi : Oper} {v : Value} (hi : ops[i]? = some oi) (hsel : ∀ (j : Nat) (o : Oper) cs b, ops[j]? = some o → o.op ≠ .select cs b) (hni : hot i = false)
    (hQ : ∀ c a w, Q (.panic c) (a.put oi.dst v) w → Q (.panic c) a w)
    (free : Bool)
    (hfr : free = false → ∀ (j : Nat) (o : Oper), ops[j]? = some o → hot j = true → ∃ e ∈ o.after, Region.binds md e = true ∧ e.on = i) :
    ∀ (k : Nat) (listed : Array Bool) (a : Act) (w : World),
      (∀ j oj, ops[j]? = some oj → j ≠ i → listed.getD j true = false → (∀ e ∈ oj.after, Region.binds md e = true → e.on ≠ i) → oi.apart ops oj = true) →
      i ∈ Region.ready md ops listed → YieldsIf P ops (if free = true then fun _ => True else S) oi v a → (calmB hot listed = true → S w) → (free = false → calmB hot listed = true) →
      wpAnyM P md ops Q S hot k (listed.setIfInBounds i true) (a.put oi.dst v) w → wpAnyM P md ops Q S hot (k + 1) listed a w := by
  intro k
  induction k with
  | zero =>
    intro listed a w _ hr hy hS hc H
    refine ⟨fun h => absurd hr (by rw [h]; simp), fun j hj => ?_⟩
    rcases Decidable.em (j = i) with rfl | hne
    · exact hy.wpOp hi (by cases free with | true => trivial | false => exact hS (hc rfl)) ⟨fun h => hS (calmB_drop h), H⟩
    · have := ready_mono hj hne
      rw [H.1] at this
      cases this
  | succ k ih =>
    intro listed a w hfree hr hy hS hc H
    refine ⟨fun h => absurd hr (by rw [h]; simp), fun j hj => ?_⟩
    rcases Decidable.em (j = i) with rfl | hne
    · exact hy.wpOp hi (by cases free with | true => trivial | false => exact hS (hc rfl)) ⟨fun h => hS (calmB_drop h), H⟩
    · have g := H.2 j (ready_mono hj hne)
      obtain ⟨hun, oj, hoj, hall⟩ := mem_ready.1 hj
      have hfar : ∀ e ∈ oj.after, Region.binds md e = true → e.on ≠ i := fun e he hb heq => by
        have u1 := hall e he hb
        have u0 := (mem_ready.1 hr).1
        rw [heq] at u1
        rcases Nat.lt_or_ge i listed.size with q | q
        · simp [q] at u0 u1; rw [u0] at u1; cases u1
        · simp [Array.getElem?_eq_none q] at u1
      have g2 := wpOp_putIf hoj (hfree j oj hoj hne hun hfar) (fun cs b => hsel i oi cs b hi) (fun cs b => hsel j oj cs b hoj) hQ hy g
      have hfree2 : ∀ m om, ops[m]? = some om → m ≠ i → (listed.setIfInBounds j true).getD m true = false → (∀ e ∈ om.after, Region.binds md e = true → e.on ≠ i) → oi.apart ops om = true := fun m om hm hmi hu hno => by
        refine hfree m om hm hmi ?_ hno
        rcases Decidable.em (j = m) with rfl | hjm
        · exact hun
        · rw [getD_set_ne true hjm] at hu; exact hu
      have hcj : free = false → calmB hot (listed.setIfInBounds j true) = true := fun hf => by
        have hnh : hot j = false := by
          cases hh : hot j
          · rfl
          · obtain ⟨e, he, hb, hon⟩ := hfr hf j oj hoj hh
            exact absurd hon (hfar e he hb)
        exact calmB_set hnh (hc hf)
      refine wpOp_mono (fun a' w' z => ⟨fun h => z.2.1 ?_, ih (listed.setIfInBounds j true) a' w' hfree2 (ready_mono hr (Ne.symm hne)) z.1 (fun h => z.2.1 ?_) hcj ?_⟩) g2
      all_goals first
        | (rw [Array.setIfInBounds_comm _ _ hne]; exact z.2.2)
        | (rw [Array.setIfInBounds_comm _ _ hne]; exact calmB_set hni h)
        | (rw [Array.setIfInBounds_comm _ _ (Ne.symm hne)]; exact calmB_set hni h)
/-- All hot operations wait for number i. -/
def waitB (md : Region.Mode) (ops : Array Oper) (hot : Nat → Bool) (i : Nat) : Bool :=
  (List.range ops.size).all fun j => !hot j || (match ops[j]? with | some o => o.after.any (fun e => Region.binds md e && e.on == i) | none => true)
theorem waitB_spec {i : Nat} (h : waitB md ops hot i = true) (j : Nat) (o : Oper) (hj : ops[j]? = some o) (hh : hot j = true) : ∃ e ∈ o.after, Region.binds md e = true ∧ e.on = i := by
  unfold waitB at h
  rw [List.all_eq_true] at h
  have lt : j < ops.size := by
    rcases Nat.lt_or_ge j ops.size with q | q
    · exact q
    · rw [Array.getElem?_eq_none q] at hj; cases hj
  have := h j (List.mem_range.2 lt)
  rw [hh, hj] at this
  simp only [Bool.not_true, Bool.false_or] at this
  obtain ⟨e, he, hb⟩ := Array.any_eq_true'.1 this
  simp only [Bool.and_eq_true, beq_iff_eq] at hb
  exact ⟨e, he, hb.1, hb.2⟩
theorem hot_take {i : Nat} {oi : Oper} {v : Value} {k : Nat} {listed : Array Bool} {a : Act} {w : World} (hi : ops[i]? = some oi)
    (hs : Region.noSelect ops = true) (hf : Region.free md ops listed i = true) (hr : (Region.ready md ops listed).contains i = true) (hni : hot i = false) (hwt : waitB md ops hot i = true) (hcl : calmB hot listed = true)
    (hQ : ∀ c a w, Q (.panic c) (a.put oi.dst v) w → Q (.panic c) a w) (hy : YieldsIf P ops S oi v a) (hS : S w)
    (h : wpAnyM P md ops Q S hot k (listed.setIfInBounds i true) (a.put oi.dst v) w) : wpAnyM P md ops Q S hot (k + 1) listed a w :=
  hot_first hi (Region.noSelect_spec hs) hni hQ false (fun _ => waitB_spec hwt) k listed a w (Region.free_spec hi hf) (by simpa using hr) (by simpa using hy) (fun _ => hS) (fun _ => hcl) h
theorem hot_takeW {i : Nat} {oi : Oper} {v : Value} {k : Nat} {listed : Array Bool} {a : Act} {w : World} (hi : ops[i]? = some oi)
    (hs : Region.noSelect ops = true) (hf : Region.free md ops listed i = true) (hr : (Region.ready md ops listed).contains i = true) (hni : hot i = false)
    (hQ : ∀ c a w, Q (.panic c) (a.put oi.dst v) w → Q (.panic c) a w) (hy : YieldsIf P ops (fun _ => True) oi v a) (hS : S w)
    (h : wpAnyM P md ops Q S hot k (listed.setIfInBounds i true) (a.put oi.dst v) w) : wpAnyM P md ops Q S hot (k + 1) listed a w :=
  hot_first hi (Region.noSelect_spec hs) hni hQ true (fun h => by cases h) k listed a w (Region.free_spec hi hf) (by simpa using hr) (by simpa using hy) (fun _ => hS) (fun h => by cases h) h
theorem hot_one {i : Nat} {oi : Oper} {k : Nat} {listed : Array Bool} {a : Act} {w : World} (hi : ops[i]? = some oi) (hr : Region.ready md ops listed = [i])
    (h : ∀ K : Act → World → Prop, Hid (∀ a' w', (calmB hot (listed.setIfInBounds i true) = true → S w') → wpAnyM P md ops Q S hot k (listed.setIfInBounds i true) a' w' → K a' w') →
      if Region.wanted oi (yielded ops a.tmps) = true then Oper.wp P oi a w K Q else K (a.put oi.dst undef) w) : wpAnyM P md ops Q S hot (k + 1) listed a w := by
  have g := h (fun a' w' => (calmB hot (listed.setIfInBounds i true) = true → S w') ∧ wpAnyM P md ops Q S hot k (listed.setIfInBounds i true) a' w') (Lib.hid fun a' w' h1 h2 => ⟨h1, h2⟩)
  refine ⟨fun h0 => (by rw [hr] at h0; cases h0), fun j hj => ?_⟩
  rw [hr] at hj
  obtain rfl := List.mem_singleton.1 hj
  unfold wpOp
  simp only [hi]
  split
  · rename_i hw; rw [if_pos hw] at g; exact .inl g
  · rename_i hw; rw [if_neg hw] at g; exact g
theorem hot_done {listed : Array Bool} {a : Act} {w : World} (hr : Region.ready md ops listed = []) (h : Q .normal a w) : ∀ k, wpAnyM P md ops Q S hot k listed a w
  | 0 => ⟨hr, h⟩
  | _ + 1 => ⟨fun _ => h, by rw [hr]; simp⟩
theorem wpIn_region_hot {l n id : Nat} {a : Act} {w : World} (hot : Nat → Bool) (S : World → Prop) (hm : P.follows .mixedOrders = true)
    (hd : ops.all (fun o => !isDefer o.op) = true) (hQ : ¬ LetsOut Q) (hS : S w.drew)
    (h : S w.drew → wpAnyM P .any ops Q S hot ops.size (Array.replicate ops.size false) a w.drew) : (Code.region id ops true).wpIn (Fence.wide.inRound l) n P Q a w :=
  wpIn_region_any hm (anyIn_of_any (noDefer hd) hQ _ _ _ _ (any_of_hot _ _ _ _ (h hS)))
end
end Go.Proofs.YtjobmkdaaionlaaGreatDoor
