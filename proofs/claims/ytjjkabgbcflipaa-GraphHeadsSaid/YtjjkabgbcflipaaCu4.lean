import Derived.Test.YtjjkabgbcflipaaCu2
import Derived.Test.YtjjkabgbcflipaaCu3
import Derived.Deep.AppendLies
set_option linter.unusedSimpArgs false
set_option linter.unusedVariables false
namespace Go.Proofs.Ytjjkabgbcflipaa
open Go Go.Proofs Go.RowKit

/-- A view under way. -/
structure FwAt (w : World) (n x : Int) (ao : Option Addr) (m c P : Nat) (W : World) (ve : Value) (vs : List Value) (es : List Int) (ls : List (List Int)) : Prop where
  g : GBx W w.heap.size n x ao m c
  r0 : W.cell? ⟨w.heap.size + 1, 0, none⟩ = some nilS
  r1 : W.cell? ⟨w.heap.size + 1, 1, none⟩ = some nilS
  rf : ∀ k, W.frozen? ⟨w.heap.size + 1, k, none⟩ = false
  v0 : W.cell? ⟨w.heap.size + 1 + 1 + 1, 0, none⟩ = some ve
  v1 : W.cell? ⟨w.heap.size + 1 + 1 + 1, 1, none⟩ = some (.slice (some ⟨w.heap.size + 1 + 1, 0, none⟩) P P)
  vf : ∀ k, W.frozen? ⟨w.heap.size + 1 + 1 + 1, k, none⟩ = false
  en : ownI (w.heap.size + 1 + 1 + 1 + 1) W ve es
  lv : LvAt (w.heap.size + 1 + 1 + 1 + 1) W (w.heap.size + 1 + 1) P vs ls
  ap : ∀ k, k < P → ∀ b, ve.ownBlock = some b → (vs.getD k nilS).ownBlock ≠ some b
  size : w.heap.size + 1 + 1 + 1 + 1 ≤ W.heap.size
  bl : Below w.heap.size w W
section
variable {w W W' : World} {n x : Int} {ao : Option Addr} {m c P : Nat} {ve : Value} {vs : List Value} {es : List Int} {ls : List (List Int)}
theorem FwAt.below (h : FwAt w n x ao m c P W ve vs es ls) (hb : Below W.heap.size W W') : FwAt w n x ao m c P W' ve vs es ls := by
  have hs := h.size
  exact ⟨h.g.below hb, (hb.cell (by dsimp only; omega)).trans h.r0, (hb.cell (by dsimp only; omega)).trans h.r1, fun k => (hb.frozen (by dsimp only; omega)).trans (h.rf k), (hb.cell (by dsimp only; omega)).trans h.v0, (hb.cell (by dsimp only; omega)).trans h.v1, fun k => (hb.frozen (by dsimp only; omega)).trans (h.vf k),
    h.en.below hb, h.lv.below hb, h.ap, Nat.le_trans h.size hb.size, h.bl.trans (hb.mono h.bl.size)⟩
/-- What keeps all but one own block, and a cell of the table's or the view's. -/
theorem FwAt.base {S : Nat → Prop} (h : FwAt w n x ao m c P W ve vs es ls) (hb : But S W W') (hS : ∀ b, S b → w.heap.size + 1 + 1 ≤ b) : GBx W' w.heap.size n x ao m c ∧ W'.cell? ⟨w.heap.size + 1, 0, none⟩ = some nilS ∧ W'.cell? ⟨w.heap.size + 1, 1, none⟩ = some nilS ∧ (∀ k, W'.frozen? ⟨w.heap.size + 1, k, none⟩ = false) ∧ w.heap.size + 1 + 1 + 1 + 1 ≤ W'.heap.size ∧ Below w.heap.size w W' := by
  have hs := h.size
  have n0 : ¬ S w.heap.size := fun e => by have := hS _ e; omega
  have n1 : ¬ S (w.heap.size + 1) := fun e => by have := hS _ e; omega
  exact ⟨h.g.but hb n0, (hb.cell (p := ⟨_, 0, none⟩) (by dsimp only; omega) n1).trans h.r0, (hb.cell (p := ⟨_, 1, none⟩) (by dsimp only; omega) n1).trans h.r1, fun k => (hb.frozen (p := ⟨_, k, none⟩) (by dsimp only; omega) n1).trans (h.rf k), Nat.le_trans hs hb.size,
    h.bl.trans ⟨hb.os, hb.tape, hb.output, hb.size, fun k hk => hb.block k (by omega) (fun e => by have := hS _ e; omega)⟩⟩
theorem FwAt.pushE {w9 : World} {g cap k : Nat} {z : Int} (h : FwAt w n x ao m c P W ve vs es ls) (h9 : ownI (w.heap.size + 1 + 1 + 1 + 1) w9 (.slice (some ⟨g, 0, none⟩) k cap) (es ++ [z])) (hg : W.grownBy w9 ve.ownBlock) (hgg : ve.ownBlock = some g ∨ g = W.heap.size) :
    FwAt w n x ao m c P (w9.setCell ⟨w.heap.size + 1 + 1 + 1, 0, none⟩ (.slice (some ⟨g, 0, none⟩) k cap)) (.slice (some ⟨g, 0, none⟩) k cap) vs (es ++ [z]) ls := by
  have hb1 : But (fun b => ve.ownBlock = some b) W w9 := But.of_grown hg (fun _ e => e)
  have hb2 : But (fun b => b = w.heap.size + 1 + 1 + 1) w9 (w9.setCell ⟨w.heap.size + 1 + 1 + 1, 0, none⟩ (.slice (some ⟨g, 0, none⟩) k cap)) := (But.refl _ w9).set _ _ (fun _ => rfl)
  have hb := hb1.seq hb2
  have hge : w.heap.size + 1 + 1 + 1 + 1 ≤ g := (h9.lt rfl).1
  have hlt : ∀ b, ve.ownBlock = some b → w.heap.size + 1 + 1 + 1 + 1 ≤ b := fun b e => (h.en.lt e).1
  obtain ⟨c1, c2, c3, c4, c5, c6⟩ := h.base hb (fun b e => by rcases e with e | e; · (have := hlt b e; omega)
                                                              · omega)
  have hs := h.size
  have nV : ¬ ve.ownBlock = some (w.heap.size + 1 + 1 + 1) := fun e => by have := hlt _ e; omega
  refine ⟨c1, c2, c3, c4, ?_, ?_, fun k => ?_, h9.but hb2 (fun b e1 e2 => ?_), h.lv.but hb (fun e => ?_) (fun k hk b e1 e2 => ?_), fun k hk b e1 e2 => ?_, c5, c6⟩
  · refine World.cell?_setCell_same' _ _ _ ?_
    rw [hb1.cell (p := ⟨_, 0, none⟩) (by dsimp only; omega) nV, h.v0]; rfl
  · rw [World.cell?_setCell_other (h := by intro q; cases q), hb1.cell (p := ⟨_, 1, none⟩) (by dsimp only; omega) nV]; exact h.v1
  · rw [World.frozen?_setCell]; exact (hb1.frozen (p := ⟨_, k, none⟩) (by dsimp only; omega) nV).trans (h.vf k)
  · cases e1; dsimp only at e2; omega
  · rcases e with e | e
    · have := hlt _ e; omega
    · omega
  · rcases e2 with e2 | e2
    · exact h.ap k hk b e2 e1
    · have := ((h.lv.row k hk).lt e1).1; omega
  · cases e1
    rcases hgg with q | q
    · exact h.ap k hk _ q e2
    · have := ((h.lv.row k hk).lt e2).2; dsimp only at this; omega
theorem FwAt.pushL {w9 : World} {g cap k i : Nat} {l : List Int} (h : FwAt w n x ao m c P W ve vs es ls) (hi : i < P) (h9 : ownI (w.heap.size + 1 + 1 + 1 + 1) w9 (.slice (some ⟨g, 0, none⟩) k cap) l) (hg : W.grownBy w9 (vs.getD i nilS).ownBlock) (hgg : (vs.getD i nilS).ownBlock = some g ∨ g = W.heap.size) :
    FwAt w n x ao m c P (w9.setCell ⟨w.heap.size + 1 + 1, i, none⟩ (.slice (some ⟨g, 0, none⟩) k cap)) ve (vs.set i (.slice (some ⟨g, 0, none⟩) k cap)) es (ls.set i l) := by
  have hb1 : But (fun b => (vs.getD i nilS).ownBlock = some b) W w9 := But.of_grown hg (fun _ e => e)
  have hb2 : But (fun b => b = w.heap.size + 1 + 1) w9 (w9.setCell ⟨w.heap.size + 1 + 1, i, none⟩ (.slice (some ⟨g, 0, none⟩) k cap)) := (But.refl _ w9).set _ _ (fun _ => rfl)
  have hb := hb1.seq hb2
  have hge : w.heap.size + 1 + 1 + 1 + 1 ≤ g := (h9.lt rfl).1
  have hlt : ∀ b, (vs.getD i nilS).ownBlock = some b → w.heap.size + 1 + 1 + 1 + 1 ≤ b := fun b e => ((h.lv.row i hi).lt e).1
  obtain ⟨c1, c2, c3, c4, c5, c6⟩ := h.base hb (fun b e => by rcases e with e | e; · (have := hlt b e; omega)
                                                              · omega)
  have hs := h.size
  have nV : ¬ ((vs.getD i nilS).ownBlock = some (w.heap.size + 1 + 1 + 1) ∨ w.heap.size + 1 + 1 + 1 = w.heap.size + 1 + 1) := fun e => by
    rcases e with e | e
    · have := hlt _ e; omega
    · omega
  refine ⟨c1, c2, c3, c4, (hb.cell (p := ⟨_, 0, none⟩) (by dsimp only; omega) nV).trans h.v0, (hb.cell (p := ⟨_, 1, none⟩) (by dsimp only; omega) nV).trans h.v1, fun k => (hb.frozen (p := ⟨_, k, none⟩) (by dsimp only; omega) nV).trans (h.vf k), h.en.but hb (fun b e1 e2 => ?_), h.lv.push hi h9 hg hgg, fun j hj b e1 e2 => ?_, c5, c6⟩
  · rcases e2 with e2 | e2
    · exact h.ap i hi b e1 e2
    · have := (h.en.lt e1).1; omega
  · by_cases q : i = j
    · subst q
      rw [getD_set_eq _ _ _ _ (by rw [h.lv.vlen]; exact hi)] at e2
      cases e2
      rcases hgg with q | q
      · exact h.ap i hi _ e1 q
      · have := (h.en.lt e1).2; dsimp only at this; omega
    · rw [getD_set_ne' _ _ _ _ _ q] at e2
      exact h.ap j hj b e1 e2
theorem set2_box {W : World} {r : Nat} {u v : Value} (h0 : W.cell? ⟨r, 0, none⟩ = some u) (h1 : W.cell? ⟨r, 1, none⟩ = some v) (a b : Value) : ((W.setCell ⟨r, 0, none⟩ a).setCell ⟨r, 1, none⟩ b).cell? ⟨r, 0, none⟩ = some a ∧ ((W.setCell ⟨r, 0, none⟩ a).setCell ⟨r, 1, none⟩ b).cell? ⟨r, 1, none⟩ = some b := by
  constructor
  · rw [World.cell?_setCell_other (h := by intro q; cases q)]
    exact cellSet h0 a
  · refine World.cell?_setCell_same' _ _ _ ?_
    rw [World.cell?_setCell_other (h := by intro q; cases q), h1]; rfl
theorem But.set2 (W : World) (r : Nat) (a b : Value) : But (fun k => k = r) W ((W.setCell ⟨r, 0, none⟩ a).setCell ⟨r, 1, none⟩ b) :=
  But.set (S := fun k => k = r) (But.set (S := fun k => k = r) (But.refl _ W) ⟨r, 0, none⟩ a (fun _ => rfl)) ⟨r, 1, none⟩ b (fun _ => rfl)
theorem FwAt.new (w : World) (n x : Int) (ao : Option Addr) (m c P : Nat) : FwAt w n x ao m c P ((((w.alloc (Obj.cells #[.int .i64 n, .int .i64 x, .slice ao m c] 24)).alloc (Obj.cells #[nilS, nilS] 89)).alloc (.cells (Array.replicate P nilS) 51)).alloc (Obj.cells #[nilS, .slice (some ⟨w.heap.size + 1 + 1, 0, none⟩) P P] 89))
    nilS (List.replicate P nilS) [] (List.replicate P []) := by
  have hz : ((w.alloc (Obj.cells #[.int .i64 n, .int .i64 x, .slice ao m c] 24)).alloc (Obj.cells #[nilS, nilS] 89)).heap.size = w.heap.size + 1 + 1 := by simp
  have hL : LvAt (w.heap.size + 1 + 1 + 1 + 1) (((w.alloc (Obj.cells #[.int .i64 n, .int .i64 x, .slice ao m c] 24)).alloc (Obj.cells #[nilS, nilS] 89)).alloc (.cells (Array.replicate P nilS) 51)) (w.heap.size + 1 + 1) P (List.replicate P nilS) (List.replicate P []) := by
    have h1 := fun k hk => made_cell ((w.alloc (Obj.cells #[.int .i64 n, .int .i64 x, .slice ao m c] 24)).alloc (Obj.cells #[nilS, nilS] 89)) P nilS 51 k hk
    have h2 := made_free ((w.alloc (Obj.cells #[.int .i64 n, .int .i64 x, .slice ao m c] 24)).alloc (Obj.cells #[nilS, nilS] 89)) P nilS 51
    rw [hz] at h1 h2
    exact LvAt.new h1 h2 (by simp) (by omega)
  refine ⟨⟨by go_cell, by go_cell, by go_cell, by simp; omega⟩, by go_cell, by go_cell, fun k => by go_cell, by go_cell, by go_cell, fun k => by go_cell, ownI.nil, hL.below ((Below.refl _ _).alloc (Nat.le_refl _) _), fun _ _ b e => (by cases e), by simp, by go_grown⟩
end
theorem ckG_ok {P : Nat} {x : Int} {E : List Ed} (h : ckG P x E = 0) : 1 ≤ P ∧ P ≤ 512 ∧ E.length ≤ 1024 ∧ ∀ j, j < E.length → isPt P (edD E j).f = true ∧ isPt P (edD E j).t = true := by
  unfold ckG at h
  split at h
  · cases h
  · split at h
    · cases h
    · split at h
      · cases h
      · split at h
        · next h1 h2 h3 h4 =>
          refine ⟨by omega, by omega, by omega, fun j hj => ?_⟩
          have := List.all_eq_true.1 h4 _ (edD_mem hj)
          simpa using this
        · cases h
set_option maxRecDepth 20000 in
set_option maxHeartbeats 4000000 in
theorem forward_any {A : Nat → Prop} (P : Nat) (x : Int) (ao : Option Addr) (c : Nat) (E : List Ed) (w : World) (hr : ERow A w ao c E) (h0 : ckG P x E = 0) :
    Calls Try.prog 47 #[.agg #[.int .i64 (P : Int), .int .i64 x, .slice ao E.length c]] w fun e w' => ∃ ve vs, e = .returned (.agg #[ve, .slice (some ⟨w.heap.size + 1 + 1, 0, none⟩) P P]) ∧ ownI (w.heap.size + 1 + 1 + 1 + 1) w' ve (E.map fun d => d.t) ∧ LvAt (w.heap.size + 1 + 1 + 1 + 1) w' (w.heap.size + 1 + 1) P vs (lvN P (fun d => d.f) E E.length) ∧ Below w.heap.size w w' := by
  obtain ⟨hP0, hP1, hlen, hpt⟩ := ckG_ok h0
  have hat : ∀ j, j < E.length → ∃ b o, ao = some ⟨b, o, none⟩ ∧ b < w.heap.size ∧ EdAt w b (o + j * 21) (edD E j) := fun j hj => by
    obtain ⟨b, o, e, -, h1, h2, -⟩ := hr.get j hj
    exact ⟨b, o, e, h1, h2⟩
  have HAT := Lib.hid hat; have HPT := Lib.hid hpt
  obtain ⟨N, hN⟩ : ∃ N, E.length = N := ⟨_, rfl⟩
  clear hr hat hpt h0
  rw [hN] at hlen ⊢
  have HN := Lib.hid hN; clear hN
  have m0 : (0 : Int) ≤ (P : Int) := by omega
  have HL := Lib.hid hlen; have HP0 := Lib.hid hP0; have HP1 := Lib.hid hP1
  have hmk := make_rows ((w.alloc (Obj.cells #[.int .i64 (P : Int), .int .i64 x, .slice ao N c] 24)).alloc (Obj.cells #[nilS, nilS] 89)) P (by omega)
  go_enter Try.func47, Try.ntmps47
  go_wp2_with fail
  have HF0 := Lib.hid (FwAt.new w P x ao N c P)
  go_loopw [13] (fun iv wr => ∃ (j : Nat) (ve : Value) (vs : List Value), j ≤ N ∧ iv = .int .i64 (j : Int) ∧ FwAt w P x ao N c P wr ve vs ((E.take j).map fun d => d.t) (lvN P (fun d => d.f) E j)) (fun iv _ => N - (intOf iv).toNat)
  case atStart => exact ⟨0, _, _, Nat.zero_le _, rfl, by rw [lvN_zero]; exact HF0.out⟩
  case round =>
    obtain ⟨j, ve, vs, hj, rfl, hF⟩ := hrel
    have HF := Lib.hid hF; clear hF HF0
    by_cases hlt : j < N
    · have hlt' : j < E.length := by rw [HN.out]; exact hlt
      obtain ⟨b, o, rfl, hbl, he⟩ := HAT.out j hlt'
      have he2 := he.below HF.out.bl hbl
      have hp := HPT.out j hlt'
      have hes : (E.take (j + 1)).map (fun d => d.t) = (E.take j).map (fun d => d.t) ++ [(edD E j).t] := by rw [edD_take hlt']; simp
      have hk : ∃ k : Nat, k < P ∧ (edD E j).f = (k : Int) := by
        have := isPt_true hp.1
        exact ⟨(edD E j).f.toNat, by omega, by omega⟩
      obtain ⟨f, hf, hff⟩ := hk
      have hls := lvN_succ (P := P) (fun d => d.f) E j hf hff
      have hrl := lvN_row_len (P := P) (p := f) (fun d => d.f) E j
      have hel : ((E.take j).map (fun d => d.t)).length ≤ 1024 := by rw [List.length_map, List.length_take]; have := HL.out; omega
      have HES := Lib.hid hes; have HLS := Lib.hid hls; have HRL := Lib.hid hrl; have HFF := Lib.hid hff; have HEL := Lib.hid hel
      clear hes hls hrl hel he hp hlt' hbl hff
      generalize (E.take j).map (fun d => d.t) = es at *
      generalize lvN P (fun d => d.f) E j = ls at *
      generalize edD E j = d at *
      have HE := Lib.hid he2; clear he2
      have hF1 := HF.out.below ((Below.refl _ _).alloc (Nat.le_refl _) (.cells d.cs 55))
      have q5 := ed_box0 wr d; have q6 := ed_box1 wr d
      have HF1 := Lib.hid hF1; clear hF1
      obtain ⟨⟨y0, y1, y2, y3⟩, r0, r1, rf, v0, v1, vf, -, -, -, -, -⟩ := HF1.out
      have vf0 := vf 0
      clear y0 y1 y3 r0 r1 rf vf
      obtain ⟨vo, vc, hve, -, -, -⟩ := HF.out.en.slice
      subst hve
      have HF2 := Lib.hid (HF1.out.below ((Below.refl _ _).alloc (Nat.le_refl _) (Obj.cells #[.int .i64 d.t] 3)))
      go_wp2_with (first | (refine wpList_load_ed (.tmp 16) rfl rfl b (o + j * 21) (by simp [Act.eval, Act.put]) d HE.out ?_) | (refine wpList_store_ed (.tmp 5) (.tmp 17) rfl rfl rfl (by simp [Act.eval, Act.put]) d (by simp [Act.eval, Act.put]) ?_) | (at_builtin; refine wpList_push (lo := w.heap.size + 1 + 1 + 1 + 1) (l := es) rfl (.tmp 19) (.tmp 22) rfl (by simp [Act.eval, Act.put]) HF2.out.en (Nat.le_trans HEL.out (by omega)) HF2.out.size (wr.heap.size + 1) d.t (by simp [Act.eval, Act.put]) (by go_cell) ?_; intro g cap k w9 hk9 h9 hg9 hgg; refine Hid.out ?_))
      subst hk9
      have HF3 := Lib.hid (HF2.out.pushE h9 hg9 hgg)
      have hb1 := But.of_grown (S := fun b => (Value.slice vo es.length vc).ownBlock = some b) hg9 (fun _ e => e)
      have hlt9 : ∀ b, (Value.slice vo es.length vc).ownBlock = some b → w.heap.size + 1 + 1 + 1 + 1 ≤ b ∧ b < wr.heap.size := fun b e => HF.out.en.lt e
      have hsz := HF.out.size
      have nV : ¬ (Value.slice vo es.length vc).ownBlock = some (w.heap.size + 1 + 1 + 1) := fun e => by have := hlt9 _ e; omega
      have nX : ¬ (Value.slice vo es.length vc).ownBlock = some wr.heap.size := fun e => by have := hlt9 _ e; omega
      have e0 := hb1.cell (p := ⟨w.heap.size + 1 + 1 + 1, 0, none⟩) (by simp; omega) nV
      have e1 := hb1.frozen (p := ⟨w.heap.size + 1 + 1 + 1, 0, none⟩) (by simp; omega) nV
      have e2 := hb1.cell (p := ⟨wr.heap.size, 0, none⟩) (by simp only [World.size_alloc]; omega) nX
      rw [HF2.out.v0] at e0
      rw [HF2.out.vf] at e1
      rw [World.cell?_alloc_lt _ _ _ (by simp only [World.size_alloc]; omega), q5] at e2
      have e3 : (w9.setCell ⟨w.heap.size + 1 + 1 + 1, 0, none⟩ (.slice (some ⟨g, 0, none⟩) (es.length + 1) cap)).cell? ⟨wr.heap.size, 0, none⟩ = some (.int .i64 d.f) := by
        rw [World.cell?_setCell_other (h := by intro q; have := congrArg Addr.block q; dsimp only at this; omega)]; exact e2
      have hlX : wr.heap.size < w9.heap.size := Nat.lt_of_lt_of_le (by simp only [World.size_alloc]; omega) hg9.size
      have hvX : ∀ i, i < P → ∀ b, (vs.getD i nilS).ownBlock = some b → b < wr.heap.size := fun i hi b e => ((HF.out.lv.row i hi).lt e).2
      have E3 := Lib.hid e3; have HLX := Lib.hid hlX; have HVX := Lib.hid hvX
      clear h9 hg9 hgg hb1 hlt9 hsz nV nX e2 e3 hlX hvX y2 v0 v1 vf0 q5 q6
      refine Lib.hid ?_
      go_wp2_with fail
      clear e0 e1
      have HLX2 : Hid (wr.heap.size < (w9.setCell ⟨w.heap.size + 1 + 1 + 1, 0, none⟩ (.slice (some ⟨g, 0, none⟩) (es.length + 1) cap)).heap.size) := Lib.hid (by simpa using HLX.out)
      generalize w9.setCell ⟨w.heap.size + 1 + 1 + 1, 0, none⟩ (.slice (some ⟨g, 0, none⟩) (es.length + 1) cap) = w3 at *
      have HF4 := Lib.hid (HF3.out.below (Below.refl _ _).drew)
      have E4 : Hid (w3.drew.cell? ⟨wr.heap.size, 0, none⟩ = some (.int .i64 (f : Int))) := Lib.hid (by rw [← HFF.out]; exact E3.out)
      have HLX4 : Hid (wr.heap.size < w3.drew.heap.size) := Lib.hid HLX2.out
      clear E3 HLX2 HLX HF3
      obtain ⟨rv, hrv⟩ : ∃ rv, vs.getD f nilS = rv := ⟨_, rfl⟩
      have htab := HF4.out.lv.tab f hf
      rw [hrv] at htab
      have HRV := Lib.hid hrv; clear hrv
      have f0 : (0 : Int) ≤ (f : Int) := by omega
      have f1 : (f : Int) < (P : Int) := by omega
      refine wp_region_hot (fun j => j == 14) (fun w' => World.cell? w' ⟨w.heap.size + 1 + 1 + 1, 1, none⟩ = some (.slice (some ⟨w.heap.size + 1 + 1, 0, none⟩) P P) ∧ World.cell? w' ⟨wr.heap.size, 0, none⟩ = some (.int .i64 (f : Int)) ∧ World.cell? w' ⟨w.heap.size + 1 + 1, f, none⟩ = some rv) (by kernel_rfl) ⟨HF4.out.v1, E4.out, htab⟩ (fun hHeld => ?_)
      clear htab
      generalize w3.drew = w4 at *
      refine hot_take (i := 0) (oi := { dst := some 25, op := Op.fieldAddr 89 (Operand.tmp 3) 1, type := 0, pos := "view.go:20", after := #[], guard := none }) (v := ?v1z) rfl (by kernel_rfl) (by kernel_rfl) (by kernel_rfl) rfl (by kernel_rfl) (by kernel_rfl) (fun _ _ _ h => h) (Or.inl ⟨by rfl, ?h1z⟩) (by assumption) ?r1z
      case h1z => (intro w hSw; (try dsimp only at hSw); (try obtain ⟨hSa, hSb⟩ := hSw); (try obtain ⟨hSb, hSc⟩ := hSb); (try obtain ⟨hSc, hSd⟩ := hSc); go_simp; try with_reducible rfl)
      (try simp only [Act.put, List.setIfInBounds_toArray, List.set_cons_zero, List.set_cons_succ])
      refine hot_take (i := 1) (oi := { dst := some 26, op := Op.load 27 (Operand.tmp 25), type := 27, pos := "view.go:20", after := #[{ on := 0, ground := Ground.data }], guard := none }) (v := ?v2z) rfl (by kernel_rfl) (by kernel_rfl) (by kernel_rfl) rfl (by kernel_rfl) (by kernel_rfl) (fun _ _ _ h => h) (Or.inl ⟨by rfl, ?h2z⟩) (by assumption) ?r2z
      case h2z => (intro w hSw; (try dsimp only at hSw); (try obtain ⟨hSa, hSb⟩ := hSw); (try obtain ⟨hSb, hSc⟩ := hSb); (try obtain ⟨hSc, hSd⟩ := hSc); go_simp; try with_reducible rfl)
      (try simp only [Act.put, List.setIfInBounds_toArray, List.set_cons_zero, List.set_cons_succ])
      refine hot_take (i := 2) (oi := { dst := some 27, op := Op.fieldAddr 55 (Operand.tmp 5) 0, type := 0, pos := "view.go:20", after := #[], guard := none }) (v := ?v3z) rfl (by kernel_rfl) (by kernel_rfl) (by kernel_rfl) rfl (by kernel_rfl) (by kernel_rfl) (fun _ _ _ h => h) (Or.inl ⟨by rfl, ?h3z⟩) (by assumption) ?r3z
      case h3z => (intro w hSw; (try dsimp only at hSw); (try obtain ⟨hSa, hSb⟩ := hSw); (try obtain ⟨hSb, hSc⟩ := hSb); (try obtain ⟨hSc, hSd⟩ := hSc); go_simp; try with_reducible rfl)
      (try simp only [Act.put, List.setIfInBounds_toArray, List.set_cons_zero, List.set_cons_succ])
      refine hot_take (i := 3) (oi := { dst := some 28, op := Op.load 3 (Operand.tmp 27), type := 3, pos := "view.go:20", after := #[{ on := 2, ground := Ground.data }], guard := none }) (v := ?v4z) rfl (by kernel_rfl) (by kernel_rfl) (by kernel_rfl) rfl (by kernel_rfl) (by kernel_rfl) (fun _ _ _ h => h) (Or.inl ⟨by rfl, ?h4z⟩) (by assumption) ?r4z
      case h4z => (intro w hSw; (try dsimp only at hSw); (try obtain ⟨hSa, hSb⟩ := hSw); (try obtain ⟨hSb, hSc⟩ := hSb); (try obtain ⟨hSc, hSd⟩ := hSc); go_simp; try with_reducible rfl)
      (try simp only [Act.put, List.setIfInBounds_toArray, List.set_cons_zero, List.set_cons_succ])
      refine hot_take (i := 4) (oi := { dst := some 29, op := Op.fieldAddr 89 (Operand.tmp 3) 1, type := 0, pos := "view.go:20", after := #[], guard := none }) (v := ?v5z) rfl (by kernel_rfl) (by kernel_rfl) (by kernel_rfl) rfl (by kernel_rfl) (by kernel_rfl) (fun _ _ _ h => h) (Or.inl ⟨by rfl, ?h5z⟩) (by assumption) ?r5z
      case h5z => (intro w hSw; (try dsimp only at hSw); (try obtain ⟨hSa, hSb⟩ := hSw); (try obtain ⟨hSb, hSc⟩ := hSb); (try obtain ⟨hSc, hSd⟩ := hSc); go_simp; try with_reducible rfl)
      (try simp only [Act.put, List.setIfInBounds_toArray, List.set_cons_zero, List.set_cons_succ])
      refine hot_take (i := 5) (oi := { dst := some 30, op := Op.load 27 (Operand.tmp 29), type := 27, pos := "view.go:20", after := #[{ on := 4, ground := Ground.data }], guard := none }) (v := ?v6z) rfl (by kernel_rfl) (by kernel_rfl) (by kernel_rfl) rfl (by kernel_rfl) (by kernel_rfl) (fun _ _ _ h => h) (Or.inl ⟨by rfl, ?h6z⟩) (by assumption) ?r6z
      case h6z => (intro w hSw; (try dsimp only at hSw); (try obtain ⟨hSa, hSb⟩ := hSw); (try obtain ⟨hSb, hSc⟩ := hSb); (try obtain ⟨hSc, hSd⟩ := hSc); go_simp; try with_reducible rfl)
      (try simp only [Act.put, List.setIfInBounds_toArray, List.set_cons_zero, List.set_cons_succ])
      refine hot_take (i := 6) (oi := { dst := some 31, op := Op.fieldAddr 55 (Operand.tmp 5) 0, type := 0, pos := "view.go:20", after := #[], guard := none }) (v := ?v7z) rfl (by kernel_rfl) (by kernel_rfl) (by kernel_rfl) rfl (by kernel_rfl) (by kernel_rfl) (fun _ _ _ h => h) (Or.inl ⟨by rfl, ?h7z⟩) (by assumption) ?r7z
      case h7z => (intro w hSw; (try dsimp only at hSw); (try obtain ⟨hSa, hSb⟩ := hSw); (try obtain ⟨hSb, hSc⟩ := hSb); (try obtain ⟨hSc, hSd⟩ := hSc); go_simp; try with_reducible rfl)
      (try simp only [Act.put, List.setIfInBounds_toArray, List.set_cons_zero, List.set_cons_succ])
      refine hot_take (i := 7) (oi := { dst := some 32, op := Op.load 3 (Operand.tmp 31), type := 3, pos := "view.go:20", after := #[{ on := 6, ground := Ground.data }], guard := none }) (v := ?v8z) rfl (by kernel_rfl) (by kernel_rfl) (by kernel_rfl) rfl (by kernel_rfl) (by kernel_rfl) (fun _ _ _ h => h) (Or.inl ⟨by rfl, ?h8z⟩) (by assumption) ?r8z
      case h8z => (intro w hSw; (try dsimp only at hSw); (try obtain ⟨hSa, hSb⟩ := hSw); (try obtain ⟨hSb, hSc⟩ := hSb); (try obtain ⟨hSc, hSd⟩ := hSc); go_simp; try with_reducible rfl)
      (try simp only [Act.put, List.setIfInBounds_toArray, List.set_cons_zero, List.set_cons_succ])
      refine hot_take (i := 8) (oi := { dst := some 33, op := Op.indexAddr 27 (Operand.tmp 30) (Operand.tmp 32), type := 0, pos := "view.go:20", after := #[{ on := 5, ground := Ground.data }, { on := 7, ground := Ground.data }], guard := none }) (v := ?v9z) rfl (by kernel_rfl) (by kernel_rfl) (by kernel_rfl) rfl (by kernel_rfl) (by kernel_rfl) (fun _ _ _ h => h) (Or.inl ⟨by rfl, ?h9z⟩) (by assumption) ?r9z
      case h9z => (intro w hSw; (try dsimp only at hSw); (try obtain ⟨hSa, hSb⟩ := hSw); (try obtain ⟨hSb, hSc⟩ := hSb); (try obtain ⟨hSc, hSd⟩ := hSc); go_simp; try with_reducible rfl)
      (try simp only [Act.put, List.setIfInBounds_toArray, List.set_cons_zero, List.set_cons_succ])
      refine hot_take (i := 9) (oi := { dst := some 34, op := Op.load 51 (Operand.tmp 33), type := 51, pos := "view.go:20", after := #[{ on := 8, ground := Ground.data }], guard := none }) (v := ?v10z) rfl (by kernel_rfl) (by kernel_rfl) (by kernel_rfl) rfl (by kernel_rfl) (by kernel_rfl) (fun _ _ _ h => h) (Or.inl ⟨by rfl, ?h10z⟩) (by assumption) ?r10z
      case h10z => (intro w hSw; (try dsimp only at hSw); (try obtain ⟨hSa, hSb⟩ := hSw); (try obtain ⟨hSb, hSc⟩ := hSb); (try obtain ⟨hSc, hSd⟩ := hSc); go_simp; try with_reducible rfl)
      (try simp only [Act.put, List.setIfInBounds_toArray, List.set_cons_zero, List.set_cons_succ])
      refine hot_take (i := 10) (oi := { dst := some 35, op := Op.move (Operand.tmp 4), type := 3, pos := "view.go:20", after := #[], guard := none }) (v := ?v11z) rfl (by kernel_rfl) (by kernel_rfl) (by kernel_rfl) rfl (by kernel_rfl) (by kernel_rfl) (fun _ _ _ h => h) (Or.inl ⟨by rfl, ?h11z⟩) (by assumption) ?r11z
      case h11z => (intro w hSw; (try dsimp only at hSw); (try obtain ⟨hSa, hSb⟩ := hSw); (try obtain ⟨hSb, hSc⟩ := hSb); (try obtain ⟨hSc, hSd⟩ := hSc); go_simp; try with_reducible rfl)
      (try simp only [Act.put, List.setIfInBounds_toArray, List.set_cons_zero, List.set_cons_succ])
      refine hot_one (i := 11) (oi := { dst := some 36, op := Op.buildSlice 51 1 #[(0, Operand.tmp 35)], type := 51, pos := "view.go:20", after := #[{ on := 10, ground := Ground.data }], guard := none }) rfl (by kernel_rfl) (fun K hK => ?_)
      go_simp

      have HF5 := Lib.hid (HF4.out.below ((Below.refl _ _).alloc (Nat.le_refl _) (Obj.cells #[.int .i64 (j : Int)] 3)))
      have E5 : Hid ((w4.alloc (Obj.cells #[.int .i64 (j : Int)] 3)).cell? ⟨wr.heap.size, 0, none⟩ = some (.int .i64 (f : Int))) := Lib.hid ((World.cell?_alloc_lt _ _ _ HLX4.out).trans E4.out)
      have hHeld := And.intro HF5.out.v1 (And.intro E5.out (HRV.out ▸ HF5.out.lv.tab f hf))
      refine hK.out _ _ (fun _ => hHeld) ?_
      clear hK K
      (try simp only [Act.put, List.setIfInBounds_toArray, List.set_cons_zero, List.set_cons_succ])

      refine hot_one (i := 12) (oi := { dst := some 37, op := Op.call { callee := Callee.builtin Builtin.append, args := #[Operand.tmp 34, Operand.tmp 36], argTypes := #[51, 51] }, type := 51, pos := "view.go:20", after := #[{ on := 9, ground := Ground.data }, { on := 11, ground := Ground.data }], guard := none }) rfl (by kernel_rfl) (fun K hK => ?_)

      have how := HF5.out.lv.row f hf
      rw [HRV.out] at how
      refine step_pushI (v := rv) (lo := w.heap.size + 1 + 1 + 1 + 1) (l := ls.getD f []) rfl (.tmp 34) (.tmp 36) rfl (by simp [Act.eval, Act.put]) how (by have := HRL.out; have := HL.out; omega) HF5.out.size w4.heap.size j (by simp [Act.eval, Act.put]) (by go_cell) ?_
      intro g2 cap2 k2 w9b hk2 h9 hg9 hgg
      subst hk2
      clear how
      have hrv2 := HRV.out
      rw [← hrv2] at hg9 hgg
      have hlt9 := fun b e => (HF5.out.lv.row f hf).lt (b := b) e
      have hvx := HVX.out f hf
      have hsz := HF.out.size
      have hb1 := But.of_grown (S := fun b => (vs.getD f nilS).ownBlock = some b) hg9 (fun _ e => e)
      have nV : ¬ (vs.getD f nilS).ownBlock = some (w.heap.size + 1 + 1 + 1) := fun e => by have := hlt9 _ e; omega
      have nL : ¬ (vs.getD f nilS).ownBlock = some (w.heap.size + 1 + 1) := fun e => by have := hlt9 _ e; omega
      have nX : ¬ (vs.getD f nilS).ownBlock = some wr.heap.size := fun e => by have := hvx _ e; omega
      have hlx := HLX4.out
      have t1 := hb1.cell (p := ⟨w.heap.size + 1 + 1 + 1, 1, none⟩) (by have := HF5.out.size; dsimp only; omega) nV
      have t2 := hb1.cell (p := ⟨wr.heap.size, 0, none⟩) (by simp only [World.size_alloc]; omega) nX
      have t3 := hb1.cell (p := ⟨w.heap.size + 1 + 1, f, none⟩) (by have := HF5.out.size; dsimp only; omega) nL
      have t4 := hb1.frozen (p := ⟨w.heap.size + 1 + 1, f, none⟩) (by have := HF5.out.size; dsimp only; omega) nL
      rw [HF5.out.v1] at t1
      rw [E5.out] at t2
      rw [HF5.out.lv.tab f hf, hrv2] at t3
      rw [HF5.out.lv.free f] at t4
      have hF6 := HF5.out.pushL hf h9 hg9 hgg
      have HF6 := Lib.hid hF6
      clear hF6 h9 hg9 hgg hlt9 hvx hsz hb1 nV nL nX hlx hrv2 hHeld
      have hHeld := And.intro t1 (And.intro t2 t3)
      refine hK.out _ _ (fun _ => hHeld) ?_
      clear hK K
      (try simp only [Act.put, List.setIfInBounds_toArray, List.set_cons_zero, List.set_cons_succ])

      refine hot_takeW (i := 13) (oi := { dst := some 38, op := Op.indexAddr 27 (Operand.tmp 26) (Operand.tmp 28), type := 0, pos := "view.go:20", after := #[{ on := 1, ground := Ground.data }, { on := 3, ground := Ground.data }, { on := 0, ground := Ground.phase }, { on := 1, ground := Ground.phase }, { on := 2, ground := Ground.phase }, { on := 3, ground := Ground.phase }, { on := 4, ground := Ground.phase }, { on := 5, ground := Ground.phase }, { on := 6, ground := Ground.phase }, { on := 7, ground := Ground.phase }, { on := 8, ground := Ground.phase }, { on := 9, ground := Ground.phase }, { on := 10, ground := Ground.phase }, { on := 11, ground := Ground.phase }, { on := 12, ground := Ground.phase }], guard := none }) (v := ?v12z) rfl (by kernel_rfl) (by kernel_rfl) (by kernel_rfl) rfl (fun _ _ _ h => h) (Or.inl ⟨by rfl, ?h12z⟩) (by assumption) ?r12z
      case h12z => (intro w _; go_simp; try with_reducible rfl)
      (try simp only [Act.put, List.setIfInBounds_toArray, List.set_cons_zero, List.set_cons_succ])
      refine hot_one (i := 14) (oi := { dst := none, op := Op.store 51 (Operand.tmp 38) (Operand.tmp 37), type := 0, pos := "view.go:20", after := #[{ on := 13, ground := Ground.data }, { on := 12, ground := Ground.data }, { on := 12, ground := Ground.chain }, { on := 0, ground := Ground.phase }, { on := 1, ground := Ground.phase }, { on := 2, ground := Ground.phase }, { on := 3, ground := Ground.phase }, { on := 4, ground := Ground.phase }, { on := 5, ground := Ground.phase }, { on := 6, ground := Ground.phase }, { on := 7, ground := Ground.phase }, { on := 8, ground := Ground.phase }, { on := 9, ground := Ground.phase }, { on := 10, ground := Ground.phase }, { on := 11, ground := Ground.phase }, { on := 12, ground := Ground.phase }], guard := none }) rfl (by kernel_rfl) (fun K hK => ?_)
      go_simp
      refine hK.out _ _ (fun h => by cases h) ?_
      clear hK K t1 t2 t3 t4 hHeld
      refine hot_done (by kernel_rfl) ?_ _

      go_wp2_with fail
      go_roundw
      case rel => exact ⟨j + 1, _, _, by omega, by go_num, by rw [HES.out, HLS.out]; exact HF6.out⟩
      case measure => simp [intOf]; omega
    · have hjn : j = N := by omega
      obtain rfl := hjn
      have hF := HF.out
      rw [show (E.take j).map (fun d => d.t) = E.map (fun d => d.t) from by rw [← HN.out, List.take_length]] at hF
      obtain ⟨es, hes⟩ : ∃ es, es = E.map (fun d => d.t) := ⟨_, rfl⟩
      rw [← hes] at hF
      have HES := Lib.hid hes
      clear HF hes
      have HF := Lib.hid hF; clear hF
      obtain ⟨vo, vc, hve, -, -, -⟩ := HF.out.en.slice
      subst hve
      obtain ⟨-, r0, r1, rf, v0, v1, vf, -, -, -, -, -⟩ := HF.out
      have r5 := rf 0; have r6 := rf 1
      clear rf vf
      go_wp2
      have HFF2 := Lib.hid (set2_box HF.out.r0 HF.out.r1 (.slice vo es.length vc) (.slice (some ⟨w.heap.size + 1 + 1, 0, none⟩) P P))
      obtain ⟨z0, z1⟩ := HFF2.out
      have z2 := cellSet HF.out.r0 (.slice vo es.length vc)
      refine bodyPost_ret (by simp [results, Try.results47, go_sem, z0, z1, z2]; rfl) rfl ?_
      have hS : But (fun b => b = w.heap.size + 1) wr ((wr.setCell ⟨w.heap.size + 1, 0, none⟩ (.slice vo es.length vc)).setCell ⟨w.heap.size + 1, 1, none⟩ (.slice (some ⟨w.heap.size + 1 + 1, 0, none⟩) P P)) := But.set2 wr _ _ _
      obtain ⟨-, -, -, -, -, h6⟩ := HF.out.base (S := fun _ => False) (But.refl _ wr) (fun _ f => f.elim)
      have hsz := HF.out.size
      refine ⟨_, vs, rfl, ?_, ?_, ?_⟩
      · have := HF.out.en.but hS (fun b e1 e2 => by have := (HF.out.en.lt e1).1; omega)
        rw [← HES.out]; exact this
      · exact HF.out.lv.but hS (by omega) (fun k hk b e1 e2 => by have := ((HF.out.lv.row k hk).lt e1).1; omega)
      · exact h6.trans ⟨rfl, rfl, rfl, by simp, fun k hk => hS.block k (by omega) (by omega)⟩
set_option maxRecDepth 20000 in
set_option maxHeartbeats 4000000 in
theorem backward_any {A : Nat → Prop} (P : Nat) (x : Int) (ao : Option Addr) (c : Nat) (E : List Ed) (w : World) (hr : ERow A w ao c E) (h0 : ckG P x E = 0) :
    Calls Try.prog 49 #[.agg #[.int .i64 (P : Int), .int .i64 x, .slice ao E.length c]] w fun e w' => ∃ ve vs, e = .returned (.agg #[ve, .slice (some ⟨w.heap.size + 1 + 1, 0, none⟩) P P]) ∧ ownI (w.heap.size + 1 + 1 + 1 + 1) w' ve (E.map fun d => d.f) ∧ LvAt (w.heap.size + 1 + 1 + 1 + 1) w' (w.heap.size + 1 + 1) P vs (lvN P (fun d => d.t) E E.length) ∧ Below w.heap.size w w' := by
  obtain ⟨hP0, hP1, hlen, hpt⟩ := ckG_ok h0
  have hat : ∀ j, j < E.length → ∃ b o, ao = some ⟨b, o, none⟩ ∧ b < w.heap.size ∧ EdAt w b (o + j * 21) (edD E j) := fun j hj => by
    obtain ⟨b, o, e, -, h1, h2, -⟩ := hr.get j hj
    exact ⟨b, o, e, h1, h2⟩
  have HAT := Lib.hid hat; have HPT := Lib.hid hpt
  obtain ⟨N, hN⟩ : ∃ N, E.length = N := ⟨_, rfl⟩
  clear hr hat hpt h0
  rw [hN] at hlen ⊢
  have HN := Lib.hid hN; clear hN
  have m0 : (0 : Int) ≤ (P : Int) := by omega
  have HL := Lib.hid hlen; have HP0 := Lib.hid hP0; have HP1 := Lib.hid hP1
  have hmk := make_rows ((w.alloc (Obj.cells #[.int .i64 (P : Int), .int .i64 x, .slice ao N c] 24)).alloc (Obj.cells #[nilS, nilS] 89)) P (by omega)
  go_enter Try.func49, Try.ntmps49
  go_wp2_with fail
  have HF0 := Lib.hid (FwAt.new w P x ao N c P)
  go_loopw [13] (fun iv wr => ∃ (j : Nat) (ve : Value) (vs : List Value), j ≤ N ∧ iv = .int .i64 (j : Int) ∧ FwAt w P x ao N c P wr ve vs ((E.take j).map fun d => d.f) (lvN P (fun d => d.t) E j)) (fun iv _ => N - (intOf iv).toNat)
  case atStart => exact ⟨0, _, _, Nat.zero_le _, rfl, by rw [lvN_zero]; exact HF0.out⟩
  case round =>
    obtain ⟨j, ve, vs, hj, rfl, hF⟩ := hrel
    have HF := Lib.hid hF; clear hF HF0
    by_cases hlt : j < N
    · have hlt' : j < E.length := by rw [HN.out]; exact hlt
      obtain ⟨b, o, rfl, hbl, he⟩ := HAT.out j hlt'
      have he2 := he.below HF.out.bl hbl
      have hp := HPT.out j hlt'
      have hes : (E.take (j + 1)).map (fun d => d.f) = (E.take j).map (fun d => d.f) ++ [(edD E j).f] := by rw [edD_take hlt']; simp
      have hk : ∃ k : Nat, k < P ∧ (edD E j).t = (k : Int) := by
        have := isPt_true hp.2
        exact ⟨(edD E j).t.toNat, by omega, by omega⟩
      obtain ⟨f, hf, hff⟩ := hk
      have hls := lvN_succ (P := P) (fun d => d.t) E j hf hff
      have hrl := lvN_row_len (P := P) (p := f) (fun d => d.t) E j
      have hel : ((E.take j).map (fun d => d.f)).length ≤ 1024 := by rw [List.length_map, List.length_take]; have := HL.out; omega
      have HES := Lib.hid hes; have HLS := Lib.hid hls; have HRL := Lib.hid hrl; have HFF := Lib.hid hff; have HEL := Lib.hid hel
      clear hes hls hrl hel he hp hlt' hbl hff
      generalize (E.take j).map (fun d => d.f) = es at *
      generalize lvN P (fun d => d.t) E j = ls at *
      generalize edD E j = d at *
      have HE := Lib.hid he2; clear he2
      have hF1 := HF.out.below ((Below.refl _ _).alloc (Nat.le_refl _) (.cells d.cs 55))
      have q5 := ed_box0 wr d; have q6 := ed_box1 wr d
      have HF1 := Lib.hid hF1; clear hF1
      obtain ⟨⟨y0, y1, y2, y3⟩, r0, r1, rf, v0, v1, vf, -, -, -, -, -⟩ := HF1.out
      have vf0 := vf 0
      clear y0 y1 y3 r0 r1 rf vf
      obtain ⟨vo, vc, hve, -, -, -⟩ := HF.out.en.slice
      subst hve
      have HF2 := Lib.hid (HF1.out.below ((Below.refl _ _).alloc (Nat.le_refl _) (Obj.cells #[.int .i64 d.f] 3)))
      go_wp2_with (first | (refine wpList_load_ed (.tmp 16) rfl rfl b (o + j * 21) (by simp [Act.eval, Act.put]) d HE.out ?_) | (refine wpList_store_ed (.tmp 5) (.tmp 17) rfl rfl rfl (by simp [Act.eval, Act.put]) d (by simp [Act.eval, Act.put]) ?_) | (at_builtin; refine wpList_push (lo := w.heap.size + 1 + 1 + 1 + 1) (l := es) rfl (.tmp 19) (.tmp 22) rfl (by simp [Act.eval, Act.put]) HF2.out.en (Nat.le_trans HEL.out (by omega)) HF2.out.size (wr.heap.size + 1) d.f (by simp [Act.eval, Act.put]) (by go_cell) ?_; intro g cap k w9 hk9 h9 hg9 hgg; refine Hid.out ?_))
      subst hk9
      have HF3 := Lib.hid (HF2.out.pushE h9 hg9 hgg)
      have hb1 := But.of_grown (S := fun b => (Value.slice vo es.length vc).ownBlock = some b) hg9 (fun _ e => e)
      have hlt9 : ∀ b, (Value.slice vo es.length vc).ownBlock = some b → w.heap.size + 1 + 1 + 1 + 1 ≤ b ∧ b < wr.heap.size := fun b e => HF.out.en.lt e
      have hsz := HF.out.size
      have nV : ¬ (Value.slice vo es.length vc).ownBlock = some (w.heap.size + 1 + 1 + 1) := fun e => by have := hlt9 _ e; omega
      have nX : ¬ (Value.slice vo es.length vc).ownBlock = some wr.heap.size := fun e => by have := hlt9 _ e; omega
      have e0 := hb1.cell (p := ⟨w.heap.size + 1 + 1 + 1, 0, none⟩) (by simp; omega) nV
      have e1 := hb1.frozen (p := ⟨w.heap.size + 1 + 1 + 1, 0, none⟩) (by simp; omega) nV
      have e2 := hb1.cell (p := ⟨wr.heap.size, 1, none⟩) (by simp only [World.size_alloc]; omega) nX
      rw [HF2.out.v0] at e0
      rw [HF2.out.vf] at e1
      rw [World.cell?_alloc_lt _ _ _ (by simp only [World.size_alloc]; omega), q6] at e2
      have e3 : (w9.setCell ⟨w.heap.size + 1 + 1 + 1, 0, none⟩ (.slice (some ⟨g, 0, none⟩) (es.length + 1) cap)).cell? ⟨wr.heap.size, 1, none⟩ = some (.int .i64 d.t) := by
        rw [World.cell?_setCell_other (h := by intro q; have := congrArg Addr.block q; dsimp only at this; omega)]; exact e2
      have hlX : wr.heap.size < w9.heap.size := Nat.lt_of_lt_of_le (by simp only [World.size_alloc]; omega) hg9.size
      have hvX : ∀ i, i < P → ∀ b, (vs.getD i nilS).ownBlock = some b → b < wr.heap.size := fun i hi b e => ((HF.out.lv.row i hi).lt e).2
      have E3 := Lib.hid e3; have HLX := Lib.hid hlX; have HVX := Lib.hid hvX
      clear h9 hg9 hgg hb1 hlt9 hsz nV nX e2 e3 hlX hvX y2 v0 v1 vf0 q5 q6
      refine Lib.hid ?_
      go_wp2_with fail
      clear e0 e1
      have HLX2 : Hid (wr.heap.size < (w9.setCell ⟨w.heap.size + 1 + 1 + 1, 0, none⟩ (.slice (some ⟨g, 0, none⟩) (es.length + 1) cap)).heap.size) := Lib.hid (by simpa using HLX.out)
      generalize w9.setCell ⟨w.heap.size + 1 + 1 + 1, 0, none⟩ (.slice (some ⟨g, 0, none⟩) (es.length + 1) cap) = w3 at *
      have HF4 := Lib.hid (HF3.out.below (Below.refl _ _).drew)
      have E4 : Hid (w3.drew.cell? ⟨wr.heap.size, 1, none⟩ = some (.int .i64 (f : Int))) := Lib.hid (by rw [← HFF.out]; exact E3.out)
      have HLX4 : Hid (wr.heap.size < w3.drew.heap.size) := Lib.hid HLX2.out
      clear E3 HLX2 HLX HF3
      obtain ⟨rv, hrv⟩ : ∃ rv, vs.getD f nilS = rv := ⟨_, rfl⟩
      have htab := HF4.out.lv.tab f hf
      rw [hrv] at htab
      have HRV := Lib.hid hrv; clear hrv
      have f0 : (0 : Int) ≤ (f : Int) := by omega
      have f1 : (f : Int) < (P : Int) := by omega
      refine wp_region_hot (fun j => j == 14) (fun w' => World.cell? w' ⟨w.heap.size + 1 + 1 + 1, 1, none⟩ = some (.slice (some ⟨w.heap.size + 1 + 1, 0, none⟩) P P) ∧ World.cell? w' ⟨wr.heap.size, 1, none⟩ = some (.int .i64 (f : Int)) ∧ World.cell? w' ⟨w.heap.size + 1 + 1, f, none⟩ = some rv) (by kernel_rfl) ⟨HF4.out.v1, E4.out, htab⟩ (fun hHeld => ?_)
      clear htab
      generalize w3.drew = w4 at *
      refine hot_take (i := 0) (oi := { dst := some 25, op := Op.fieldAddr 89 (Operand.tmp 3) 1, type := 0, pos := "view.go:30", after := #[], guard := none }) (v := ?v13z) rfl (by kernel_rfl) (by kernel_rfl) (by kernel_rfl) rfl (by kernel_rfl) (by kernel_rfl) (fun _ _ _ h => h) (Or.inl ⟨by rfl, ?h13z⟩) (by assumption) ?r13z
      case h13z => (intro w hSw; (try dsimp only at hSw); (try obtain ⟨hSa, hSb⟩ := hSw); (try obtain ⟨hSb, hSc⟩ := hSb); (try obtain ⟨hSc, hSd⟩ := hSc); go_simp; try with_reducible rfl)
      (try simp only [Act.put, List.setIfInBounds_toArray, List.set_cons_zero, List.set_cons_succ])
      refine hot_take (i := 1) (oi := { dst := some 26, op := Op.load 27 (Operand.tmp 25), type := 27, pos := "view.go:30", after := #[{ on := 0, ground := Ground.data }], guard := none }) (v := ?v14z) rfl (by kernel_rfl) (by kernel_rfl) (by kernel_rfl) rfl (by kernel_rfl) (by kernel_rfl) (fun _ _ _ h => h) (Or.inl ⟨by rfl, ?h14z⟩) (by assumption) ?r14z
      case h14z => (intro w hSw; (try dsimp only at hSw); (try obtain ⟨hSa, hSb⟩ := hSw); (try obtain ⟨hSb, hSc⟩ := hSb); (try obtain ⟨hSc, hSd⟩ := hSc); go_simp; try with_reducible rfl)
      (try simp only [Act.put, List.setIfInBounds_toArray, List.set_cons_zero, List.set_cons_succ])
      refine hot_take (i := 2) (oi := { dst := some 27, op := Op.fieldAddr 55 (Operand.tmp 5) 1, type := 0, pos := "view.go:30", after := #[], guard := none }) (v := ?v15z) rfl (by kernel_rfl) (by kernel_rfl) (by kernel_rfl) rfl (by kernel_rfl) (by kernel_rfl) (fun _ _ _ h => h) (Or.inl ⟨by rfl, ?h15z⟩) (by assumption) ?r15z
      case h15z => (intro w hSw; (try dsimp only at hSw); (try obtain ⟨hSa, hSb⟩ := hSw); (try obtain ⟨hSb, hSc⟩ := hSb); (try obtain ⟨hSc, hSd⟩ := hSc); go_simp; try with_reducible rfl)
      (try simp only [Act.put, List.setIfInBounds_toArray, List.set_cons_zero, List.set_cons_succ])
      refine hot_take (i := 3) (oi := { dst := some 28, op := Op.load 3 (Operand.tmp 27), type := 3, pos := "view.go:30", after := #[{ on := 2, ground := Ground.data }], guard := none }) (v := ?v16z) rfl (by kernel_rfl) (by kernel_rfl) (by kernel_rfl) rfl (by kernel_rfl) (by kernel_rfl) (fun _ _ _ h => h) (Or.inl ⟨by rfl, ?h16z⟩) (by assumption) ?r16z
      case h16z => (intro w hSw; (try dsimp only at hSw); (try obtain ⟨hSa, hSb⟩ := hSw); (try obtain ⟨hSb, hSc⟩ := hSb); (try obtain ⟨hSc, hSd⟩ := hSc); go_simp; try with_reducible rfl)
      (try simp only [Act.put, List.setIfInBounds_toArray, List.set_cons_zero, List.set_cons_succ])
      refine hot_take (i := 4) (oi := { dst := some 29, op := Op.fieldAddr 89 (Operand.tmp 3) 1, type := 0, pos := "view.go:30", after := #[], guard := none }) (v := ?v17z) rfl (by kernel_rfl) (by kernel_rfl) (by kernel_rfl) rfl (by kernel_rfl) (by kernel_rfl) (fun _ _ _ h => h) (Or.inl ⟨by rfl, ?h17z⟩) (by assumption) ?r17z
      case h17z => (intro w hSw; (try dsimp only at hSw); (try obtain ⟨hSa, hSb⟩ := hSw); (try obtain ⟨hSb, hSc⟩ := hSb); (try obtain ⟨hSc, hSd⟩ := hSc); go_simp; try with_reducible rfl)
      (try simp only [Act.put, List.setIfInBounds_toArray, List.set_cons_zero, List.set_cons_succ])
      refine hot_take (i := 5) (oi := { dst := some 30, op := Op.load 27 (Operand.tmp 29), type := 27, pos := "view.go:30", after := #[{ on := 4, ground := Ground.data }], guard := none }) (v := ?v18z) rfl (by kernel_rfl) (by kernel_rfl) (by kernel_rfl) rfl (by kernel_rfl) (by kernel_rfl) (fun _ _ _ h => h) (Or.inl ⟨by rfl, ?h18z⟩) (by assumption) ?r18z
      case h18z => (intro w hSw; (try dsimp only at hSw); (try obtain ⟨hSa, hSb⟩ := hSw); (try obtain ⟨hSb, hSc⟩ := hSb); (try obtain ⟨hSc, hSd⟩ := hSc); go_simp; try with_reducible rfl)
      (try simp only [Act.put, List.setIfInBounds_toArray, List.set_cons_zero, List.set_cons_succ])
      refine hot_take (i := 6) (oi := { dst := some 31, op := Op.fieldAddr 55 (Operand.tmp 5) 1, type := 0, pos := "view.go:30", after := #[], guard := none }) (v := ?v19z) rfl (by kernel_rfl) (by kernel_rfl) (by kernel_rfl) rfl (by kernel_rfl) (by kernel_rfl) (fun _ _ _ h => h) (Or.inl ⟨by rfl, ?h19z⟩) (by assumption) ?r19z
      case h19z => (intro w hSw; (try dsimp only at hSw); (try obtain ⟨hSa, hSb⟩ := hSw); (try obtain ⟨hSb, hSc⟩ := hSb); (try obtain ⟨hSc, hSd⟩ := hSc); go_simp; try with_reducible rfl)
      (try simp only [Act.put, List.setIfInBounds_toArray, List.set_cons_zero, List.set_cons_succ])
      refine hot_take (i := 7) (oi := { dst := some 32, op := Op.load 3 (Operand.tmp 31), type := 3, pos := "view.go:30", after := #[{ on := 6, ground := Ground.data }], guard := none }) (v := ?v20z) rfl (by kernel_rfl) (by kernel_rfl) (by kernel_rfl) rfl (by kernel_rfl) (by kernel_rfl) (fun _ _ _ h => h) (Or.inl ⟨by rfl, ?h20z⟩) (by assumption) ?r20z
      case h20z => (intro w hSw; (try dsimp only at hSw); (try obtain ⟨hSa, hSb⟩ := hSw); (try obtain ⟨hSb, hSc⟩ := hSb); (try obtain ⟨hSc, hSd⟩ := hSc); go_simp; try with_reducible rfl)
      (try simp only [Act.put, List.setIfInBounds_toArray, List.set_cons_zero, List.set_cons_succ])
      refine hot_take (i := 8) (oi := { dst := some 33, op := Op.indexAddr 27 (Operand.tmp 30) (Operand.tmp 32), type := 0, pos := "view.go:30", after := #[{ on := 5, ground := Ground.data }, { on := 7, ground := Ground.data }], guard := none }) (v := ?v21z) rfl (by kernel_rfl) (by kernel_rfl) (by kernel_rfl) rfl (by kernel_rfl) (by kernel_rfl) (fun _ _ _ h => h) (Or.inl ⟨by rfl, ?h21z⟩) (by assumption) ?r21z
      case h21z => (intro w hSw; (try dsimp only at hSw); (try obtain ⟨hSa, hSb⟩ := hSw); (try obtain ⟨hSb, hSc⟩ := hSb); (try obtain ⟨hSc, hSd⟩ := hSc); go_simp; try with_reducible rfl)
      (try simp only [Act.put, List.setIfInBounds_toArray, List.set_cons_zero, List.set_cons_succ])
      refine hot_take (i := 9) (oi := { dst := some 34, op := Op.load 51 (Operand.tmp 33), type := 51, pos := "view.go:30", after := #[{ on := 8, ground := Ground.data }], guard := none }) (v := ?v22z) rfl (by kernel_rfl) (by kernel_rfl) (by kernel_rfl) rfl (by kernel_rfl) (by kernel_rfl) (fun _ _ _ h => h) (Or.inl ⟨by rfl, ?h22z⟩) (by assumption) ?r22z
      case h22z => (intro w hSw; (try dsimp only at hSw); (try obtain ⟨hSa, hSb⟩ := hSw); (try obtain ⟨hSb, hSc⟩ := hSb); (try obtain ⟨hSc, hSd⟩ := hSc); go_simp; try with_reducible rfl)
      (try simp only [Act.put, List.setIfInBounds_toArray, List.set_cons_zero, List.set_cons_succ])
      refine hot_take (i := 10) (oi := { dst := some 35, op := Op.move (Operand.tmp 4), type := 3, pos := "view.go:30", after := #[], guard := none }) (v := ?v23z) rfl (by kernel_rfl) (by kernel_rfl) (by kernel_rfl) rfl (by kernel_rfl) (by kernel_rfl) (fun _ _ _ h => h) (Or.inl ⟨by rfl, ?h23z⟩) (by assumption) ?r23z
      case h23z => (intro w hSw; (try dsimp only at hSw); (try obtain ⟨hSa, hSb⟩ := hSw); (try obtain ⟨hSb, hSc⟩ := hSb); (try obtain ⟨hSc, hSd⟩ := hSc); go_simp; try with_reducible rfl)
      (try simp only [Act.put, List.setIfInBounds_toArray, List.set_cons_zero, List.set_cons_succ])
      refine hot_one (i := 11) (oi := { dst := some 36, op := Op.buildSlice 51 1 #[(0, Operand.tmp 35)], type := 51, pos := "view.go:30", after := #[{ on := 10, ground := Ground.data }], guard := none }) rfl (by kernel_rfl) (fun K hK => ?_)
      go_simp

      have HF5 := Lib.hid (HF4.out.below ((Below.refl _ _).alloc (Nat.le_refl _) (Obj.cells #[.int .i64 (j : Int)] 3)))
      have E5 : Hid ((w4.alloc (Obj.cells #[.int .i64 (j : Int)] 3)).cell? ⟨wr.heap.size, 1, none⟩ = some (.int .i64 (f : Int))) := Lib.hid ((World.cell?_alloc_lt _ _ _ HLX4.out).trans E4.out)
      have hHeld := And.intro HF5.out.v1 (And.intro E5.out (HRV.out ▸ HF5.out.lv.tab f hf))
      refine hK.out _ _ (fun _ => hHeld) ?_
      clear hK K
      (try simp only [Act.put, List.setIfInBounds_toArray, List.set_cons_zero, List.set_cons_succ])

      refine hot_one (i := 12) (oi := { dst := some 37, op := Op.call { callee := Callee.builtin Builtin.append, args := #[Operand.tmp 34, Operand.tmp 36], argTypes := #[51, 51] }, type := 51, pos := "view.go:30", after := #[{ on := 9, ground := Ground.data }, { on := 11, ground := Ground.data }], guard := none }) rfl (by kernel_rfl) (fun K hK => ?_)

      have how := HF5.out.lv.row f hf
      rw [HRV.out] at how
      refine step_pushI (v := rv) (lo := w.heap.size + 1 + 1 + 1 + 1) (l := ls.getD f []) rfl (.tmp 34) (.tmp 36) rfl (by simp [Act.eval, Act.put]) how (by have := HRL.out; have := HL.out; omega) HF5.out.size w4.heap.size j (by simp [Act.eval, Act.put]) (by go_cell) ?_
      intro g2 cap2 k2 w9b hk2 h9 hg9 hgg
      subst hk2
      clear how
      have hrv2 := HRV.out
      rw [← hrv2] at hg9 hgg
      have hlt9 := fun b e => (HF5.out.lv.row f hf).lt (b := b) e
      have hvx := HVX.out f hf
      have hsz := HF.out.size
      have hb1 := But.of_grown (S := fun b => (vs.getD f nilS).ownBlock = some b) hg9 (fun _ e => e)
      have nV : ¬ (vs.getD f nilS).ownBlock = some (w.heap.size + 1 + 1 + 1) := fun e => by have := hlt9 _ e; omega
      have nL : ¬ (vs.getD f nilS).ownBlock = some (w.heap.size + 1 + 1) := fun e => by have := hlt9 _ e; omega
      have nX : ¬ (vs.getD f nilS).ownBlock = some wr.heap.size := fun e => by have := hvx _ e; omega
      have hlx := HLX4.out
      have t1 := hb1.cell (p := ⟨w.heap.size + 1 + 1 + 1, 1, none⟩) (by have := HF5.out.size; dsimp only; omega) nV
      have t2 := hb1.cell (p := ⟨wr.heap.size, 1, none⟩) (by simp only [World.size_alloc]; omega) nX
      have t3 := hb1.cell (p := ⟨w.heap.size + 1 + 1, f, none⟩) (by have := HF5.out.size; dsimp only; omega) nL
      have t4 := hb1.frozen (p := ⟨w.heap.size + 1 + 1, f, none⟩) (by have := HF5.out.size; dsimp only; omega) nL
      rw [HF5.out.v1] at t1
      rw [E5.out] at t2
      rw [HF5.out.lv.tab f hf, hrv2] at t3
      rw [HF5.out.lv.free f] at t4
      have hF6 := HF5.out.pushL hf h9 hg9 hgg
      have HF6 := Lib.hid hF6
      clear hF6 h9 hg9 hgg hlt9 hvx hsz hb1 nV nL nX hlx hrv2 hHeld
      have hHeld := And.intro t1 (And.intro t2 t3)
      refine hK.out _ _ (fun _ => hHeld) ?_
      clear hK K
      (try simp only [Act.put, List.setIfInBounds_toArray, List.set_cons_zero, List.set_cons_succ])

      refine hot_takeW (i := 13) (oi := { dst := some 38, op := Op.indexAddr 27 (Operand.tmp 26) (Operand.tmp 28), type := 0, pos := "view.go:30", after := #[{ on := 1, ground := Ground.data }, { on := 3, ground := Ground.data }, { on := 0, ground := Ground.phase }, { on := 1, ground := Ground.phase }, { on := 2, ground := Ground.phase }, { on := 3, ground := Ground.phase }, { on := 4, ground := Ground.phase }, { on := 5, ground := Ground.phase }, { on := 6, ground := Ground.phase }, { on := 7, ground := Ground.phase }, { on := 8, ground := Ground.phase }, { on := 9, ground := Ground.phase }, { on := 10, ground := Ground.phase }, { on := 11, ground := Ground.phase }, { on := 12, ground := Ground.phase }], guard := none }) (v := ?v24z) rfl (by kernel_rfl) (by kernel_rfl) (by kernel_rfl) rfl (fun _ _ _ h => h) (Or.inl ⟨by rfl, ?h24z⟩) (by assumption) ?r24z
      case h24z => (intro w _; go_simp; try with_reducible rfl)
      (try simp only [Act.put, List.setIfInBounds_toArray, List.set_cons_zero, List.set_cons_succ])
      refine hot_one (i := 14) (oi := { dst := none, op := Op.store 51 (Operand.tmp 38) (Operand.tmp 37), type := 0, pos := "view.go:30", after := #[{ on := 13, ground := Ground.data }, { on := 12, ground := Ground.data }, { on := 12, ground := Ground.chain }, { on := 0, ground := Ground.phase }, { on := 1, ground := Ground.phase }, { on := 2, ground := Ground.phase }, { on := 3, ground := Ground.phase }, { on := 4, ground := Ground.phase }, { on := 5, ground := Ground.phase }, { on := 6, ground := Ground.phase }, { on := 7, ground := Ground.phase }, { on := 8, ground := Ground.phase }, { on := 9, ground := Ground.phase }, { on := 10, ground := Ground.phase }, { on := 11, ground := Ground.phase }, { on := 12, ground := Ground.phase }], guard := none }) rfl (by kernel_rfl) (fun K hK => ?_)
      go_simp
      refine hK.out _ _ (fun h => by cases h) ?_
      clear hK K t1 t2 t3 t4 hHeld
      refine hot_done (by kernel_rfl) ?_ _

      go_wp2_with fail
      go_roundw
      case rel => exact ⟨j + 1, _, _, by omega, by go_num, by rw [HES.out, HLS.out]; exact HF6.out⟩
      case measure => simp [intOf]; omega
    · have hjn : j = N := by omega
      obtain rfl := hjn
      have hF := HF.out
      rw [show (E.take j).map (fun d => d.f) = E.map (fun d => d.f) from by rw [← HN.out, List.take_length]] at hF
      obtain ⟨es, hes⟩ : ∃ es, es = E.map (fun d => d.f) := ⟨_, rfl⟩
      rw [← hes] at hF
      have HES := Lib.hid hes
      clear HF hes
      have HF := Lib.hid hF; clear hF
      obtain ⟨vo, vc, hve, -, -, -⟩ := HF.out.en.slice
      subst hve
      obtain ⟨-, r0, r1, rf, v0, v1, vf, -, -, -, -, -⟩ := HF.out
      have r5 := rf 0; have r6 := rf 1
      clear rf vf
      go_wp2
      have HFF2 := Lib.hid (set2_box HF.out.r0 HF.out.r1 (.slice vo es.length vc) (.slice (some ⟨w.heap.size + 1 + 1, 0, none⟩) P P))
      obtain ⟨z0, z1⟩ := HFF2.out
      have z2 := cellSet HF.out.r0 (.slice vo es.length vc)
      refine bodyPost_ret (by simp [results, Try.results49, go_sem, z0, z1, z2]; rfl) rfl ?_
      have hS : But (fun b => b = w.heap.size + 1) wr ((wr.setCell ⟨w.heap.size + 1, 0, none⟩ (.slice vo es.length vc)).setCell ⟨w.heap.size + 1, 1, none⟩ (.slice (some ⟨w.heap.size + 1 + 1, 0, none⟩) P P)) := But.set2 wr _ _ _
      obtain ⟨-, -, -, -, -, h6⟩ := HF.out.base (S := fun _ => False) (But.refl _ wr) (fun _ f => f.elim)
      have hsz := HF.out.size
      refine ⟨_, vs, rfl, ?_, ?_, ?_⟩
      · have := HF.out.en.but hS (fun b e1 e2 => by have := (HF.out.en.lt e1).1; omega)
        rw [← HES.out]; exact this
      · exact HF.out.lv.but hS (by omega) (fun k hk b e1 e2 => by have := ((HF.out.lv.row k hk).lt e1).1; omega)
      · exact h6.trans ⟨rfl, rfl, rfl, by simp, fun k hk => hS.block k (by omega) (by omega)⟩
end Go.Proofs.Ytjjkabgbcflipaa
