import Derived.Test.YtjobmkdaaionlaaGreatDoorSc1
import Derived.Test.YtjobmkdaaionlaaGreatDoorSc2
import Derived.Test.YtjobmkdaaionlaaGreatDoorCut35
import Derived.Test.YtjobmkdaaionlaaGreatDoorCut37

set_option linter.unusedVariables false
/-
  linear: Eval in all cases.
-/
set_option linter.unusedSimpArgs false
namespace Go.Proofs.YtjobmkdaaionlaaGreatDoor
open Go Go.Proofs Go.RowKit

theorem atS_rv {l p : List ByteArray} {k : ByteArray} : ∀ j, j ≤ l.length → rv (atS k l p j) = sumQ l k p (nzTo l j)
  | 0, _ => rfl
  | j + 1, h => by
    have hlt : j < l.length := by omega
    show rv (addT (atS k l p j) (mulT (l.getD j ⟨#[]⟩) (p.getD j ⟨#[]⟩))) = _
    rw [rv_add, rv_mul, atS_rv j (by omega)]
    by_cases hz : l[j] = z0
    · rw [nzTo_zero hlt hz, getD_get l hlt, hz]
      have h0 : rv z0 = 0 := rv0
      rw [h0, Rat.zero_mul, Rat.add_zero]
    · rw [nzTo_more hlt hz, sumQ_snoc]
theorem evO_good {l p : List ByteArray} {k : ByteArray} (h0 : linE l k = 0) (hlen : l.length = p.length) (h1 : firstE p = 0) (hp : ∀ s ∈ p, Good 100 s) :
    Value.tuple #[.string (evO l k p).1, .int .i64 ((evO l k p).2 : Nat)] = if shortQ (sumQ l k p (nz l)) = true then .tuple #[.string (tq (sumQ l k p (nz l))), .int .i64 0] else .tuple #[.string ⟨#[]⟩, .int .i64 10] := by
  obtain ⟨-, g2⟩ := linE_zero h0
  have hr : rv (atS k l p l.length) = sumQ l k p (nz l) := atS_rv l.length (Nat.le_refl _)
  have ht : tq (sumQ l k p (nz l)) = atS k l p l.length := by rw [← hr]; exact (atS_good g2 hp l.length (Nat.le_refl _) (by omega)).lit
  unfold evO
  rw [if_pos h0, if_pos hlen.symm, if_pos h1, hr, ht]
  split <;> rfl
theorem firstE_good {p : List ByteArray} (h : firstE p = 0) : ∀ s ∈ p, Good 100 s := fun s hs => good_of_numE ((firstE_iff p).1 h s hs)

structure EvC (w W : World) (ao : Option Addr) (n c : Nat) (k : ByteArray) (po : Option Addr) (np pc : Nat) : Prop where
  x : Bx2 W w.heap.size (.slice ao n c) (.string k)
  p : Boxed W (w.heap.size + 1) 25 (.slice po np pc)
  r : Boxed W (w.heap.size + 1 + 1) 22 (.string ⟨#[]⟩)
  e : Boxed W (w.heap.size + 1 + 1 + 1) 28 (.int .i64 0)
  b : Below w.heap.size w W
theorem EvC.mono {w W W' : World} {ao : Option Addr} {n c : Nat} {k : ByteArray} {po : Option Addr} {np pc : Nat} (h : EvC w W ao n c k po np pc) (g : Below W.heap.size W W') : EvC w W' ao n c k po np pc :=
  ⟨h.x.mono g, boxed_below h.p g, boxed_below h.r g, boxed_below h.e g, Below.chain h.b g⟩
theorem EvC.new (w : World) (ao : Option Addr) (n c : Nat) (k : ByteArray) (po : Option Addr) (np pc : Nat) :
    EvC w ((((w.alloc (Obj.cells #[.slice ao n c, .string k] 27)).alloc (Obj.cells #[.slice po np pc] 25)).alloc (Obj.cells #[.string ⟨#[]⟩] 22)).alloc (Obj.cells #[.int .i64 0] 28)) ao n c k po np pc := by
  have h1 := Bx2.new w (.slice ao n c) (.string k) 27
  have h2 := Boxed.new (w.alloc (Obj.cells #[.slice ao n c, .string k] 27)) 25 (.slice po np pc)
  have h3 := Boxed.new ((w.alloc (Obj.cells #[.slice ao n c, .string k] 27)).alloc (Obj.cells #[.slice po np pc] 25)) 22 (.string ⟨#[]⟩)
  have h4 := Boxed.new (((w.alloc (Obj.cells #[.slice ao n c, .string k] 27)).alloc (Obj.cells #[.slice po np pc] 25)).alloc (Obj.cells #[.string ⟨#[]⟩] 22)) 28 (.int .i64 0)
  simp only [World.size_alloc] at h2 h3 h4
  exact ⟨((h1.over _).over _).over _, (h2.alloc _).alloc _, h3.alloc _, h4, ((((Below.refl _ _).alloc (Nat.le_refl _) _).alloc (by simp) _).alloc (by simp; omega) _).alloc (by simp; omega) _⟩

set_option maxRecDepth 20000 in
set_option maxHeartbeats 4000000 in
theorem linEval (l : List ByteArray) (k : ByteArray) (ao : Option Addr) (c : Nat) (p : List ByteArray) (po : Option Addr) (d : Nat) (w : World) (hr : SRow w ao c l) (hz : ∀ s ∈ l ++ [k], s.size ≤ 1200000) (hn : l.length ≤ 1200000) (hr2 : SRow w po d p) (hz2 : ∀ s ∈ p, s.size ≤ 1200000) (hn2 : p.length ≤ 1200000)
    (htab : Lib.TabIs Tryz.prog w "internal/strconv.uint64pow10" .u64 Lib.pow10Tab) :
    Calls Tryz.prog 32 #[.agg #[.slice ao l.length c, .string k], .slice po p.length d] w (Bret (.tuple #[.string (evO l k p).1, .int .i64 ((evO l k p).2 : Nat)]) w) := by
  have hT := Lib.tabBelow_of_tabIs htab
  have CH := fun (W : World) (hW : Below w.heap.size w W) => linCheck l k ao c W (hr.mono hW) hz hn (hT.on hW).here
  have CP := fun (W : World) (hW : Below w.heap.size w W) => checkNumbersL p po d W (hr2.mono hW) hz2 (by omega) (hT.on hW).here
  have hcs := linE_cases l k
  have hcn := firstE_cases p
  have V0 := EvC.new w ao l.length c k po p.length d
  by_cases h0 : linE l k = 0
  · by_cases hlen : l.length = p.length
    · by_cases h1 : firstE p = 0
      · have gp := firstE_good h1
        have ev := evO_good h0 hlen h1 gp
        rw [← hlen]
        obtain ⟨g1, g2⟩ := linE_zero h0
        exact linEval_good l k ao c p po d w hr hz hn hr2 hz2 h0 hlen h1 gp htab _ (fun pre x hpre hadd => by
          rw [ev, eval_bad g2 gp hlen g1 pre x hpre hadd]; rfl) ev
      · have ev : evO l k p = (⟨#[]⟩, firstE p) := by unfold evO; rw [if_pos h0, if_pos hlen.symm, if_neg h1]
        rw [ev]
        rw [h0] at CH
        clear hr hz hn hr2 hz2 hn2 hT htab hcs h0 ev
        generalize hnl : l.length = nl at *
        generalize hnp : p.length = np at *
        subst hlen
        clear hnl hnp
        rcases hcn with h | h | h
        · exact absurd h h1
        · rw [h] at CP ⊢
          clear h h1
          have KH := Lib.hid CH; have KP := Lib.hid CP; clear CH CP
          go_enter Tryz.func32, Tryz.ntmps32
          go_wp2_with (go_at_call 26; refine (KH.out _ V0.b).mono ?_; rintro e w1 ⟨rfl, hb1⟩; refine Hid.out ?_)
          have V1 := V0.mono hb1
          clear hb1 V0
          have x0 := V1.x.c0; have x4 := V1.x.lt; have p0 := V1.p.cell; have p4 := V1.p.lt
          refine Lib.hid ?_
          go_wp2_with (go_at_call 66; refine (KP.out _ V1.b).mono ?_; rintro e w2 ⟨rfl, hb2⟩; refine Hid.out ?_)
          have V2 := V1.mono hb2
          clear hb2 V1 x0 x4 p0 p4
          refine Lib.hid ?_
          have r0 := V2.r.cell; have r1 := V2.r.frozen; have r4 := V2.r.lt; have e0 := V2.e.cell; have e1 := V2.e.frozen; have e4 := V2.e.lt
          have q1 : ((w2.setCell ⟨w.heap.size + 1 + 1, 0, none⟩ (.string ⟨#[]⟩)).setCell ⟨w.heap.size + 1 + 1 + 1, 0, none⟩ (.int .i64 3)).cell? ⟨w.heap.size + 1 + 1, 0, none⟩ = some (.string ⟨#[]⟩) := (World.cell?_setCell_other _ _ _ _ (by simp)).trans (cellSet r0 _)
          have q2 : ((w2.setCell ⟨w.heap.size + 1 + 1, 0, none⟩ (.string ⟨#[]⟩)).setCell ⟨w.heap.size + 1 + 1 + 1, 0, none⟩ (.int .i64 3)).cell? ⟨w.heap.size + 1 + 1 + 1, 0, none⟩ = some (.int .i64 3) := cellSet ((World.cell?_setCell_other _ _ _ _ (by simp)).trans e0) _
          have HBB := Lib.hid ((V2.b.setCell (p := ⟨w.heap.size + 1 + 1, 0, none⟩) (by dsimp only; omega) (.string ⟨#[]⟩)).setCell (p := ⟨w.heap.size + 1 + 1 + 1, 0, none⟩) (by dsimp only; omega) (.int .i64 3))
          have q := And.intro q1 q2
          clear V2 q1 q2
          go_wp2
          obtain ⟨q1, q2⟩ := q
          refine bodyPost_ret (v := .tuple #[.string ⟨#[]⟩, .int .i64 3]) (by simp [results, Tryz.results32, go_sem, q1, q2]) rfl ?_
          exact ⟨rfl, HBB.out⟩
        · rw [h] at CP ⊢
          clear h h1
          have KH := Lib.hid CH; have KP := Lib.hid CP; clear CH CP
          go_enter Tryz.func32, Tryz.ntmps32
          go_wp2_with (go_at_call 26; refine (KH.out _ V0.b).mono ?_; rintro e w1 ⟨rfl, hb1⟩; refine Hid.out ?_)
          have V1 := V0.mono hb1
          clear hb1 V0
          have x0 := V1.x.c0; have x4 := V1.x.lt; have p0 := V1.p.cell; have p4 := V1.p.lt
          refine Lib.hid ?_
          go_wp2_with (go_at_call 66; refine (KP.out _ V1.b).mono ?_; rintro e w2 ⟨rfl, hb2⟩; refine Hid.out ?_)
          have V2 := V1.mono hb2
          clear hb2 V1 x0 x4 p0 p4
          refine Lib.hid ?_
          have r0 := V2.r.cell; have r1 := V2.r.frozen; have r4 := V2.r.lt; have e0 := V2.e.cell; have e1 := V2.e.frozen; have e4 := V2.e.lt
          have q1 : ((w2.setCell ⟨w.heap.size + 1 + 1, 0, none⟩ (.string ⟨#[]⟩)).setCell ⟨w.heap.size + 1 + 1 + 1, 0, none⟩ (.int .i64 10)).cell? ⟨w.heap.size + 1 + 1, 0, none⟩ = some (.string ⟨#[]⟩) := (World.cell?_setCell_other _ _ _ _ (by simp)).trans (cellSet r0 _)
          have q2 : ((w2.setCell ⟨w.heap.size + 1 + 1, 0, none⟩ (.string ⟨#[]⟩)).setCell ⟨w.heap.size + 1 + 1 + 1, 0, none⟩ (.int .i64 10)).cell? ⟨w.heap.size + 1 + 1 + 1, 0, none⟩ = some (.int .i64 10) := cellSet ((World.cell?_setCell_other _ _ _ _ (by simp)).trans e0) _
          have HBB := Lib.hid ((V2.b.setCell (p := ⟨w.heap.size + 1 + 1, 0, none⟩) (by dsimp only; omega) (.string ⟨#[]⟩)).setCell (p := ⟨w.heap.size + 1 + 1 + 1, 0, none⟩) (by dsimp only; omega) (.int .i64 10))
          have q := And.intro q1 q2
          clear V2 q1 q2
          go_wp2
          obtain ⟨q1, q2⟩ := q
          refine bodyPost_ret (v := .tuple #[.string ⟨#[]⟩, .int .i64 10]) (by simp [results, Tryz.results32, go_sem, q1, q2]) rfl ?_
          exact ⟨rfl, HBB.out⟩
    · have ev : evO l k p = (⟨#[]⟩, 15) := by unfold evO; rw [if_pos h0, if_neg (fun h => hlen h.symm)]
      rw [ev]
      rw [h0] at CH
      have hl2 : ¬ ((p.length : Int) = (l.length : Int)) := by omega
      have hl3 : ¬ ((l.length : Int) = (p.length : Int)) := by omega
      clear hr hz hn hr2 hz2 hn2 hT htab hcs hcn CP h0 ev
      generalize l.length = nl at *
      generalize p.length = np at *
      have KH := Lib.hid CH; clear CH
      go_enter Tryz.func32, Tryz.ntmps32
      go_wp2_with (go_at_call 26; refine (KH.out _ V0.b).mono ?_; rintro e w1 ⟨rfl, hb1⟩; refine Hid.out ?_)
      have V1 := V0.mono hb1
      clear hb1 V0
      have x0 := V1.x.c0; have x4 := V1.x.lt; have p0 := V1.p.cell; have p4 := V1.p.lt
      refine Lib.hid ?_
      have r0 := V1.r.cell; have r1 := V1.r.frozen; have r4 := V1.r.lt; have e0 := V1.e.cell; have e1 := V1.e.frozen; have e4 := V1.e.lt
      have q1 : ((w1.setCell ⟨w.heap.size + 1 + 1, 0, none⟩ (.string ⟨#[]⟩)).setCell ⟨w.heap.size + 1 + 1 + 1, 0, none⟩ (.int .i64 15)).cell? ⟨w.heap.size + 1 + 1, 0, none⟩ = some (.string ⟨#[]⟩) := (World.cell?_setCell_other _ _ _ _ (by simp)).trans (cellSet r0 _)
      have q2 : ((w1.setCell ⟨w.heap.size + 1 + 1, 0, none⟩ (.string ⟨#[]⟩)).setCell ⟨w.heap.size + 1 + 1 + 1, 0, none⟩ (.int .i64 15)).cell? ⟨w.heap.size + 1 + 1 + 1, 0, none⟩ = some (.int .i64 15) := cellSet ((World.cell?_setCell_other _ _ _ _ (by simp)).trans e0) _
      have HBB := Lib.hid ((V1.b.setCell (p := ⟨w.heap.size + 1 + 1, 0, none⟩) (by dsimp only; omega) (.string ⟨#[]⟩)).setCell (p := ⟨w.heap.size + 1 + 1 + 1, 0, none⟩) (by dsimp only; omega) (.int .i64 15))
      have q := And.intro q1 q2
      clear V1 q1 q2
      go_wp2
      obtain ⟨q1, q2⟩ := q
      refine bodyPost_ret (v := .tuple #[.string ⟨#[]⟩, .int .i64 15]) (by simp [results, Tryz.results32, go_sem, q1, q2]) rfl ?_
      exact ⟨rfl, HBB.out⟩
  · have ev : evO l k p = (⟨#[]⟩, linE l k) := by unfold evO; rw [if_neg h0]
    rw [ev]
    clear hr hz hn hr2 hz2 hn2 hT htab CP hcn ev
    generalize l.length = nl at *
    generalize p.length = np at *
    rcases hcs with h | h | h | h
    · exact absurd h h0
    · rw [h] at CH ⊢
      clear h h0
      have KH := Lib.hid CH; clear CH
      go_enter Tryz.func32, Tryz.ntmps32
      go_wp2_with (go_at_call 26; refine (KH.out _ V0.b).mono ?_; rintro e w1 ⟨rfl, hb1⟩; refine Hid.out ?_)
      have V1 := V0.mono hb1
      clear hb1 V0
      have x0 := V1.x.c0; have x4 := V1.x.lt; have p0 := V1.p.cell; have p4 := V1.p.lt
      refine Lib.hid ?_
      have r0 := V1.r.cell; have r1 := V1.r.frozen; have r4 := V1.r.lt; have e0 := V1.e.cell; have e1 := V1.e.frozen; have e4 := V1.e.lt
      have q1 : ((w1.setCell ⟨w.heap.size + 1 + 1, 0, none⟩ (.string ⟨#[]⟩)).setCell ⟨w.heap.size + 1 + 1 + 1, 0, none⟩ (.int .i64 3)).cell? ⟨w.heap.size + 1 + 1, 0, none⟩ = some (.string ⟨#[]⟩) := (World.cell?_setCell_other _ _ _ _ (by simp)).trans (cellSet r0 _)
      have q2 : ((w1.setCell ⟨w.heap.size + 1 + 1, 0, none⟩ (.string ⟨#[]⟩)).setCell ⟨w.heap.size + 1 + 1 + 1, 0, none⟩ (.int .i64 3)).cell? ⟨w.heap.size + 1 + 1 + 1, 0, none⟩ = some (.int .i64 3) := cellSet ((World.cell?_setCell_other _ _ _ _ (by simp)).trans e0) _
      have HBB := Lib.hid ((V1.b.setCell (p := ⟨w.heap.size + 1 + 1, 0, none⟩) (by dsimp only; omega) (.string ⟨#[]⟩)).setCell (p := ⟨w.heap.size + 1 + 1 + 1, 0, none⟩) (by dsimp only; omega) (.int .i64 3))
      have q := And.intro q1 q2
      clear V1 q1 q2
      go_wp2
      obtain ⟨q1, q2⟩ := q
      refine bodyPost_ret (v := .tuple #[.string ⟨#[]⟩, .int .i64 3]) (by simp [results, Tryz.results32, go_sem, q1, q2]) rfl ?_
      exact ⟨rfl, HBB.out⟩
    · rw [h] at CH ⊢
      clear h h0
      have KH := Lib.hid CH; clear CH
      go_enter Tryz.func32, Tryz.ntmps32
      go_wp2_with (go_at_call 26; refine (KH.out _ V0.b).mono ?_; rintro e w1 ⟨rfl, hb1⟩; refine Hid.out ?_)
      have V1 := V0.mono hb1
      clear hb1 V0
      have x0 := V1.x.c0; have x4 := V1.x.lt; have p0 := V1.p.cell; have p4 := V1.p.lt
      refine Lib.hid ?_
      have r0 := V1.r.cell; have r1 := V1.r.frozen; have r4 := V1.r.lt; have e0 := V1.e.cell; have e1 := V1.e.frozen; have e4 := V1.e.lt
      have q1 : ((w1.setCell ⟨w.heap.size + 1 + 1, 0, none⟩ (.string ⟨#[]⟩)).setCell ⟨w.heap.size + 1 + 1 + 1, 0, none⟩ (.int .i64 5)).cell? ⟨w.heap.size + 1 + 1, 0, none⟩ = some (.string ⟨#[]⟩) := (World.cell?_setCell_other _ _ _ _ (by simp)).trans (cellSet r0 _)
      have q2 : ((w1.setCell ⟨w.heap.size + 1 + 1, 0, none⟩ (.string ⟨#[]⟩)).setCell ⟨w.heap.size + 1 + 1 + 1, 0, none⟩ (.int .i64 5)).cell? ⟨w.heap.size + 1 + 1 + 1, 0, none⟩ = some (.int .i64 5) := cellSet ((World.cell?_setCell_other _ _ _ _ (by simp)).trans e0) _
      have HBB := Lib.hid ((V1.b.setCell (p := ⟨w.heap.size + 1 + 1, 0, none⟩) (by dsimp only; omega) (.string ⟨#[]⟩)).setCell (p := ⟨w.heap.size + 1 + 1 + 1, 0, none⟩) (by dsimp only; omega) (.int .i64 5))
      have q := And.intro q1 q2
      clear V1 q1 q2
      go_wp2
      obtain ⟨q1, q2⟩ := q
      refine bodyPost_ret (v := .tuple #[.string ⟨#[]⟩, .int .i64 5]) (by simp [results, Tryz.results32, go_sem, q1, q2]) rfl ?_
      exact ⟨rfl, HBB.out⟩
    · rw [h] at CH ⊢
      clear h h0
      have KH := Lib.hid CH; clear CH
      go_enter Tryz.func32, Tryz.ntmps32
      go_wp2_with (go_at_call 26; refine (KH.out _ V0.b).mono ?_; rintro e w1 ⟨rfl, hb1⟩; refine Hid.out ?_)
      have V1 := V0.mono hb1
      clear hb1 V0
      have x0 := V1.x.c0; have x4 := V1.x.lt; have p0 := V1.p.cell; have p4 := V1.p.lt
      refine Lib.hid ?_
      have r0 := V1.r.cell; have r1 := V1.r.frozen; have r4 := V1.r.lt; have e0 := V1.e.cell; have e1 := V1.e.frozen; have e4 := V1.e.lt
      have q1 : ((w1.setCell ⟨w.heap.size + 1 + 1, 0, none⟩ (.string ⟨#[]⟩)).setCell ⟨w.heap.size + 1 + 1 + 1, 0, none⟩ (.int .i64 10)).cell? ⟨w.heap.size + 1 + 1, 0, none⟩ = some (.string ⟨#[]⟩) := (World.cell?_setCell_other _ _ _ _ (by simp)).trans (cellSet r0 _)
      have q2 : ((w1.setCell ⟨w.heap.size + 1 + 1, 0, none⟩ (.string ⟨#[]⟩)).setCell ⟨w.heap.size + 1 + 1 + 1, 0, none⟩ (.int .i64 10)).cell? ⟨w.heap.size + 1 + 1 + 1, 0, none⟩ = some (.int .i64 10) := cellSet ((World.cell?_setCell_other _ _ _ _ (by simp)).trans e0) _
      have HBB := Lib.hid ((V1.b.setCell (p := ⟨w.heap.size + 1 + 1, 0, none⟩) (by dsimp only; omega) (.string ⟨#[]⟩)).setCell (p := ⟨w.heap.size + 1 + 1 + 1, 0, none⟩) (by dsimp only; omega) (.int .i64 10))
      have q := And.intro q1 q2
      clear V1 q1 q2
      go_wp2
      obtain ⟨q1, q2⟩ := q
      refine bodyPost_ret (v := .tuple #[.string ⟨#[]⟩, .int .i64 10]) (by simp [results, Tryz.results32, go_sem, q1, q2]) rfl ?_
      exact ⟨rfl, HBB.out⟩
end Go.Proofs.YtjobmkdaaionlaaGreatDoor

/-
  linear: the reference's FewRats.
-/
set_option linter.unusedSimpArgs false
namespace Go.Proofs.YtjobmkdaaionlaaGreatDoor
open Go Go.Proofs Go.RowKit

def fewR (l : List ByteArray) : Bool := fewL l ⟨#[]⟩
set_option maxHeartbeats 2000000 in
theorem refFewRats (l : List ByteArray) (ao : Option Addr) (c : Nat) (w : World) (hr : SRow w ao c l) (hm : (l.length : Int) ≤ 9223372036854775807) :
    Calls Tryz.prog 29 #[.slice ao l.length c] w (Bret (.bool (fewR l)) w) := by
  have CF : Calls Tryz.prog 19 #[.agg #[.slice ao l.length c, .string ⟨#[]⟩]] w (Bret (.bool (fewR l)) w) := refFew l ⟨#[]⟩ ao c w hr hm
  generalize fewR l = r at *
  have KF := Lib.hid CF; clear CF hr
  go_enter Tryz.func29, Tryz.ntmps29
  go_wp2_with (go_at_call 19; refine KF.out.mono ?_; rintro e w1 ⟨rfl, hb1⟩; refine Hid.out ?_)
  refine Lib.hid ?_
  go_wp2
  refine bodyPost_ret (v := .bool r) (by simp [results, Tryz.results29, go_sem]) rfl ?_
  exact ⟨rfl, hb1⟩
end Go.Proofs.YtjobmkdaaionlaaGreatDoor

/-
  LinearMakes.
-/
set_option linter.unusedSimpArgs false
namespace Go.Proofs.YtjobmkdaaionlaaGreatDoor
open Go Go.Proofs Go.RowKit

theorem exprO_len (l : List ByteArray) (k : ByteArray) : (exprO l k).l.length ≤ l.length := by
  unfold exprO; split
  · exact Nat.le_refl _
  · exact Nat.zero_le _
theorem sameO (o : LOut) (ao bo : Option Addr) (c d : Nat) (p q : Nat) (w : World) (hn : o.l.length ≤ 1200000) (ha : OB w p ao c o) (hb : OB w q bo d o) :
    Calls Tryz.prog 18 #[.agg #[.slice ao o.l.length c, .string o.k], .agg #[.slice bo o.l.length d, .string o.k]] w (Bret (.bool true) w) := sameLin o.l o.k ao bo c d w ha.r hb.r hn

end Go.Proofs.YtjobmkdaaionlaaGreatDoor

/-
  The law LinearScales.
-/
set_option linter.unusedSimpArgs false
namespace Go.Proofs.YtjobmkdaaionlaaGreatDoor
open Go Go.Proofs Go.RowKit

theorem scaleO_len (l : List ByteArray) (k x : ByteArray) (hl : l.length ≤ 1000) : (scaleO l k x).l.length ≤ 1200000 := by
  unfold scaleO
  split
  · split
    · refine Nat.le_trans (exprO_len _ _) ?_
      simp
      omega
    · exact Nat.zero_le _
  · exact Nat.zero_le _

set_option maxRecDepth 20000 in
set_option maxHeartbeats 8000000 in
theorem lscales_walk (l : List ByteArray) (k : ByteArray) (ao : Option Addr) (c : Nat) (x : ByteArray) (p : List ByteArray) (po : Option Addr) (d : Nat) (w : World)
    (hr : SRow w ao c l) (_hz : ∀ s ∈ l ++ [k], s.size ≤ 9223372036854775807) (hn : l.length ≤ 9223372036854775807) (_hx : x.size ≤ 9223372036854775807) (hr2 : SRow w po d p) (_hz2 : ∀ s ∈ p, s.size ≤ 9223372036854775807) (hn2 : p.length ≤ 9223372036854775807)
    (htab : Lib.TabIs Tryz.prog w "internal/strconv.uint64pow10" .u64 Lib.pow10Tab) :
    Calls Tryz.prog 5 #[.agg #[.slice ao l.length c, .string k], .string x, .slice po p.length d] w fun e w' => e = .returned (.bool true) ∧ Below w.heap.size w w' := by
  have hT := Lib.tabBelow_of_tabIs htab
  have CA : ∀ W : World, Below w.heap.size w W → Calls Tryz.prog 13 #[] W (Bret (.bool true) W) := fun W hW => awake03 W (hT.on hW).here
  have CF := fun (W : World) (hW : Below w.heap.size w W) => refFew l k ao c W (hr.mono hW) (by omega)
  have CX := fun (W : World) => fewText x W
  have CP := fun (W : World) (hW : Below w.heap.size w W) => refFewRats p po d W (hr2.mono hW) (by omega)
  have X := Bx2.new w (.slice ao l.length c) (.string k) 27
  have B : Below w.heap.size w (w.alloc (Obj.cells #[.slice ao l.length c, .string k] 27)) := (Below.refl _ _).alloc (Nat.le_refl _) _
  have x0 := X.c0; have x1 := X.c1; have x2 := X.lt
  cases hf : fewL l k
  · rw [hf] at CF
    generalize l.length = n at *
    generalize p.length = n2 at *
    have KA := Lib.hid CA; have KF := Lib.hid CF
    clear CA CF CX CP hT htab hr hr2 _hz _hz2 hf
    go_enter Tryz.func5, Tryz.ntmps5
    go_wp2_with (go_at_call 19; refine (KF.out _ B).mono ?_; rintro e w0 ⟨rfl, hb0⟩; refine Hid.out ?_)
    have BL := Below.chain B hb0; clear hb0 B
    refine Lib.hid ?_
    go_wp2_with (go_at_call 13; refine (KA.out _ BL).mono ?_; rintro e w1 ⟨rfl, hb1⟩; refine Hid.out ?_)
    have B1 := Below.chain BL hb1; clear hb1 BL
    refine Lib.hid ?_
    go_wp2
    refine bodyPost_ret (v := .bool true) (by simp [results, Tryz.results5, go_sem]) rfl ?_
    exact ⟨rfl, B1⟩
  rw [hf] at CF
  cases hf2 : fewT x
  · rw [hf2] at CX
    generalize l.length = n at *
    generalize p.length = n2 at *
    have KA := Lib.hid CA; have KF := Lib.hid CF; have KX := Lib.hid CX
    clear CA CF CX CP hT htab hr hr2 _hz _hz2 hf hf2
    go_enter Tryz.func5, Tryz.ntmps5
    go_wp2_with (go_at_call 19; refine (KF.out _ B).mono ?_; rintro e w0 ⟨rfl, hb0⟩; refine Hid.out ?_)
    have BL := Below.chain B hb0; clear hb0 B
    refine Lib.hid ?_
    go_wp2_with (go_at_call 12; refine (KX.out _).mono ?_; rintro e w0 ⟨rfl, h⟩; subst h; refine Hid.out ?_)
    refine Lib.hid ?_
    go_wp2_with (go_at_call 13; refine (KA.out _ BL).mono ?_; rintro e w1 ⟨rfl, hb1⟩; refine Hid.out ?_)
    have B1 := Below.chain BL hb1; clear hb1 BL
    refine Lib.hid ?_
    go_wp2
    refine bodyPost_ret (v := .bool true) (by simp [results, Tryz.results5, go_sem]) rfl ?_
    exact ⟨rfl, B1⟩
  rw [hf2] at CX
  cases hf3 : fewR p
  · rw [hf3] at CP
    generalize l.length = n at *
    generalize p.length = n2 at *
    have KA := Lib.hid CA; have KF := Lib.hid CF; have KX := Lib.hid CX; have KP := Lib.hid CP
    clear CA CF CX CP hT htab hr hr2 _hz _hz2 hf hf2 hf3
    go_enter Tryz.func5, Tryz.ntmps5
    go_wp2_with (go_at_call 19; refine (KF.out _ B).mono ?_; rintro e w0 ⟨rfl, hb0⟩; refine Hid.out ?_)
    have BM := Below.chain B hb0; clear hb0 B
    refine Lib.hid ?_
    go_wp2_with (go_at_call 12; refine (KX.out _).mono ?_; rintro e w0 ⟨rfl, h⟩; subst h; refine Hid.out ?_)
    refine Lib.hid ?_
    go_wp2_with (go_at_call 29; refine (KP.out _ BM).mono ?_; rintro e w3 ⟨rfl, hb3⟩; refine Hid.out ?_)
    have BL := Below.chain BM hb3; clear hb3 BM
    refine Lib.hid ?_
    go_wp2_with (go_at_call 13; refine (KA.out _ BL).mono ?_; rintro e w1 ⟨rfl, hb1⟩; refine Hid.out ?_)
    have B1 := Below.chain BL hb1; clear hb1 BL
    refine Lib.hid ?_
    go_wp2
    refine bodyPost_ret (v := .bool true) (by simp [results, Tryz.results5, go_sem]) rfl ?_
    exact ⟨rfl, B1⟩
  rw [hf3] at CP
  obtain ⟨f1, f2⟩ := fewL_spec hf
  obtain ⟨f3, f4⟩ := fewL_spec (l := p) (k := ⟨#[]⟩) hf3
  have f5 : x.size ≤ 450 := by unfold fewT at hf2; exact of_decide_eq_true hf2
  have z1 : ∀ s ∈ l ++ [k], s.size ≤ 1200000 := fun s hs => Nat.le_trans (f2 s hs) (by decide)
  have z2 : ∀ s ∈ p, s.size ≤ 1200000 := fun s hs => Nat.le_trans (f4 s (List.mem_append_left _ hs)) (by decide)
  have C1 := fun (W : World) (hW : Below w.heap.size w W) => linScale l k ao c x W (hr.mono hW) z1 (by omega) (by omega) (hT.on hW).here
  have C2 := fun (W : World) (hW : Below w.heap.size w W) => refScale l k ao c x W (hr.mono hW) z1 (by omega) (by omega)
  have C3 := fun (W : World) (hW : Below w.heap.size w W) => linEval l k ao c p po d W (hr.mono hW) z1 (by omega) (hr2.mono hW) z2 (by omega) (hT.on hW).here
  have C4 := fun (W : World) (hW : Below w.heap.size w W) => refEval l k ao c p po d W (hr.mono hW) z1 (by omega) (hr2.mono hW) z2 (by omega)
  have L1 := scaleO_len l k x (by omega)
  generalize scaleO l k x = O1 at *
  generalize (evO l k p).1 = vv at *
  generalize (evO l k p).2 = ve at *
  clear f1 f2 f3 f4 f5 hf hf2 hf3 z1 z2
  generalize l.length = n at *
  generalize p.length = n2 at *
  have KA := Lib.hid CA; have KF := Lib.hid CF; have KX := Lib.hid CX; have KP := Lib.hid CP; have K1 := Lib.hid C1; have K2 := Lib.hid C2; have K3 := Lib.hid C3; have K4 := Lib.hid C4; have KL1 := Lib.hid L1
  clear CA CF CX CP C1 C2 C3 C4 L1 hT htab hr hr2 _hz _hz2
  go_enter Tryz.func5, Tryz.ntmps5
  go_wp2_with (go_at_call 19; refine (KF.out _ B).mono ?_; rintro e w0 ⟨rfl, hb0⟩; refine Hid.out ?_)
  have B0 := Below.chain B hb0; have X0 := X.mono hb0
  clear hb0 B X x0 x1 x2
  refine Lib.hid ?_
  go_wp2_with (go_at_call 12; refine (KX.out _).mono ?_; rintro e w0 ⟨rfl, h⟩; subst h; refine Hid.out ?_)
  refine Lib.hid ?_
  go_wp2_with (go_at_call 29; refine (KP.out _ B0).mono ?_; rintro e w5 ⟨rfl, hb5⟩; refine Hid.out ?_)
  have B5 := Below.chain B0 hb5; have X5 := X0.mono hb5
  clear hb5 B0 X0
  have x0 := X5.c0; have x1 := X5.c1; have x2 := X5.lt
  refine Lib.hid ?_
  go_wp2_with (go_at_call 30; refine (K1.out _ B5).mono ?_; rintro e w1 ⟨a1, c1, rfl, r1, hb1⟩; refine Hid.out ?_)
  have P1 := OB.new r1 27
  have N1 := nb hb1 (Obj.cells #[.slice a1 O1.l.length c1, .string O1.k] 27)
  have B1 := Below.chain B5 N1; have X1 := X5.mono N1
  clear r1 hb1 B5 X5 x0 x1 x2 N1
  have x0 := X1.c0; have x1 := X1.c1; have x2 := X1.lt
  refine Lib.hid ?_
  go_wp2_with (go_at_call 31; refine (K2.out _ B1).mono ?_; rintro e w2 ⟨a2, c2, rfl, r2, hb2⟩; refine Hid.out ?_)
  have N2 := nb hb2 (Obj.cells #[.slice a2 O1.l.length c2, .string O1.k] 27)
  have Q1 := P1.mono N2; have X2 := X1.mono N2
  have Q2 := OB.new r2 27
  have B2 := Below.chain B1 N2
  clear r2 hb2 P1 B1 X1 x0 x1 x2 N2
  have x0 := X2.c0; have x1 := X2.c1; have x2 := X2.lt
  refine Lib.hid ?_
  go_wp2_with (go_at_call 32; refine (K3.out _ B2).mono ?_; rintro e w3 ⟨rfl, hb3⟩; refine Hid.out ?_)
  have R1 := Q1.mono hb3; have R2 := Q2.mono hb3; have X3 := X2.mono hb3; have B3 := Below.chain B2 hb3
  clear hb3 Q1 Q2 X2 B2 x0 x1 x2
  have x0 := X3.c0; have x1 := X3.c1; have x2 := X3.lt
  refine Lib.hid ?_
  go_wp2_with (go_at_call 33; refine (K4.out _ B3).mono ?_; rintro e w4 ⟨rfl, hb4⟩; refine Hid.out ?_)
  have Q1 := R1.mono hb4; have Q2 := R2.mono hb4; have B4 := Below.chain B3 hb4
  clear hb4 R1 R2 X3 B3 x0 x1 x2
  have x0 := Q1.x.c0; have x1 := Q1.x.c1; have x2 := Q1.x.lt; have y0 := Q2.x.c0; have y1 := Q2.x.c1; have y2 := Q2.x.lt
  have S1 := sameO O1 a1 a2 c1 c2 _ _ _ KL1.out Q1 Q2
  have KS1 := Lib.hid S1; clear S1
  refine Lib.hid ?_
  go_wp2_with (go_at_call 18; refine KS1.out.mono ?_; rintro e w6 ⟨rfl, hb6⟩; refine Hid.out ?_)
  have BL := Below.chain B4 hb6
  clear x0 x1 x2 y0 y1 y2 Q1 Q2 B4 hb6
  refine Lib.hid ?_
  go_wp2_with (go_at_call 13; refine (KA.out _ BL).mono ?_; rintro e w1 ⟨rfl, hb1⟩; refine Hid.out ?_)
  have B1 := Below.chain BL hb1; clear hb1 BL
  refine Lib.hid ?_
  go_wp2
  refine bodyPost_ret (v := .bool true) (by simp [results, Tryz.results5, go_sem]) rfl ?_
  exact ⟨rfl, B1⟩
end Go.Proofs.YtjobmkdaaionlaaGreatDoor

