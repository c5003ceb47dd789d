import Derived.Test.YtjjkabgbcflipaaCu20
set_option linter.unusedSimpArgs false
set_option linter.unusedVariables false
namespace Go.Proofs.Ytjjkabgbcflipaa
open Go Go.Proofs Go.RowKit Go.Sort GM

section
variable {α : Type} [Inhabited α] {enc : α → Value}
theorem sorted_heap {w : World} {g n : Nat} {os : Array Obj} (d : Array α) {cur : Array Value} {e : TypeId} {fr : Nat × Nat} (hb : w.heap[g]? = some (.cells cur e fr)) :
    (grow (putRow enc (Sort.ahead w n) g 0 d) os).heap[g]? = some (.cells (putCells enc 0 d cur) e fr) := by
  have hg : g < w.heap.size := (Array.getElem?_eq_some_iff.1 hb).1
  rw [heap_grow_old _ _ (by simpa using hg)]
  simp [putRow, mapBlock, Sort.ahead, Array.getElem?_modify, hb, onCells]
theorem sorted_grown {w : World} {g n : Nat} {os : Array Obj} (d : Array α) : w.grownBy (grow (putRow enc (Sort.ahead w n) g 0 d) os) (some g) := by
  refine ⟨rfl, rfl, rfl, by simp, fun k hk hne => ?_⟩
  rw [heap_grow_old _ _ (by simpa using hk)]
  have : g ≠ k := fun e => hne (by rw [e])
  simp [putRow, mapBlock, Sort.ahead, Array.getElem?_modify, this]
theorem sorted_take (cur : Array Value) (ts : List α) (h : ts.length ≤ cur.size) : (putCells enc 0 ts.toArray cur).toList.take ts.length = ts.map enc := by
  apply List.ext_getElem?
  intro j
  by_cases hj : j < ts.length
  · rw [List.getElem?_take_of_lt hj, Array.getElem?_toList]
    simp [putCells, hj, show j < cur.size by omega]
  · rw [List.getElem?_take_eq_none (by omega), List.getElem?_eq_none (by simp; omega)]
theorem sorted_holds {w : World} {g : Nat} {cur : Array Value} {e : TypeId} {ss : List α} (hb : w.heap[g]? = some (.cells cur e (0, 0))) (ht : cur.toList.take ss.length = ss.map enc) : Holds enc w g 0 ss.toArray := by
  intro j hj
  have hj' : j < ss.length := by simpa using hj
  refine ⟨?_, frozen_of_row _ _ _ _ _ hb⟩
  have h1 : (cur.toList.take ss.length)[j]? = (ss.map enc)[j]? := by rw [ht]
  rw [List.getElem?_take_of_lt hj'] at h1
  rw [cell_of_row _ _ _ _ _ (0, 0) hb, Nat.zero_add, ← Array.getElem?_toList, h1]
  simp [hj']
end
theorem ownI.first {lo : Nat} {W : World} {v : Value} {l : List Nat} (h : ownI lo W v (l.map fun (n : Nat) => (n : Int))) (hne : l ≠ []) : ∃ b n c, v = .slice (some ⟨b, 0, none⟩) n c ∧ 0 < n ∧ W.cell? ⟨b, 0, none⟩ = some (.int .i64 ((l.head?.getD 0 : Nat) : Int)) := by
  cases l with
  | nil => exact absurd rfl hne
  | cons a l =>
    rcases id h.2 with ⟨e, h0⟩ | ⟨g, cap, cur, e, -⟩
    · simp at h0
    · subst e
      exact ⟨g, _, cap, rfl, by simp, by rw [h.cells 0 (by simp)]; simp⟩
theorem cmp_lt {α : Type} (f : α → Int) (x y : α) : ltOf (fun x y => Lib.compareInt (f x) (f y)) x y = decide (f x < f y) := by
  unfold ltOf Lib.compareInt
  by_cases h : f x < f y
  · simp [h]
  · by_cases h2 : f x > f y <;> simp [h, h2]
theorem sortGv {lo : Nat} {W : World} {v : Value} {L : List Gp} (h : GvAt lo W v L) (hne : ∀ x ∈ L, x.l ≠ []) (hd : ∀ x ∈ L, ∀ y ∈ L, hdG x = hdG y → x = y) (hl : L.length ≤ 100000) :
    Calls Try.prog 93 #[v, .func (.func 94) #[] #[]] W fun e w' => e = .returned (.tuple #[]) ∧ GvAt lo w' v (L.mergeSort fun x y => decide (hdG x ≤ hdG y)) ∧ W.grownBy w' v.ownBlock := by
  rcases id h.own.2 with ⟨e, h0⟩ | ⟨g, cap, cur, e, hlo, hg, h1, h2, h3, h4⟩
  · have hn : L = [] := List.length_eq_zero_iff.1 h0
    subst hn e
    refine (Try.slices_SortFunc_none (α := Nat) none 0 _ W).mono ?_
    rintro e w' ⟨rfl, rfl⟩
    exact ⟨rfl, by simpa using GvAt.nil lo _, World.grownBy.refl _ _⟩
  · subst e
    by_cases hL : L = []
    · subst hL
      refine (Try.slices_SortFunc_none (α := Nat) _ _ _ W).mono ?_
      rintro e w' ⟨rfl, rfl⟩
      exact ⟨rfl, by simpa using h, World.grownBy.refl _ _⟩
    · obtain ⟨x0, hx0⟩ := List.exists_mem_of_ne_nil L hL
      haveI : Inhabited {x : Gp // x ∈ L} := ⟨⟨x0, hx0⟩⟩
      rw [Nat.mul_one] at h4
      have hH := sorted_holds (enc := fun x : {x : Gp // x ∈ L} => x.1.v) (ss := L.attach) hg (by rw [List.length_attach, h4]; unfold gpCells; simp)
      have hcmp : CmpReads Try.prog 94 #[] (fun x : {x : Gp // x ∈ L} => x.1.v) (fun x y => Lib.compareInt (hdG x.1) (hdG y.1)) g 0 L.attach.toArray.size W := by
        intro m os dk hs x y
        obtain ⟨b1, n1, c1, e1, k1, m1⟩ := (h.pts x.1 x.2).first (hne x.1 x.2)
        obtain ⟨b2, n2, c2, e2, k2, m2⟩ := (h.pts y.1 y.2).first (hne y.1 y.2)
        have hgr : W.grownBy (sortWorld (fun x : {x : Gp // x ∈ L} => x.1.v) W g 0 m dk os) (some g) := sorted_grown dk
        have hbt := But.of_grown (S := fun b => b = g) hgr (fun k e => by cases e; rfl)
        have a1 := h.ap x.1 x.2 b1 (by rw [e1]; rfl)
        have a2 := h.ap y.1 y.2 b2 (by rw [e2]; rfl)
        have l1 := ((h.pts x.1 x.2).lt (b := b1) (by rw [e1]; rfl)).2
        have l2 := ((h.pts y.1 y.2).lt (b := b2) (by rw [e2]; rfl)).2
        have m1' := (hbt.cell (p := ⟨b1, 0, none⟩) l1 (fun e => a1 (by dsimp only at e; rw [e]; rfl))).trans m1
        have m2' := (hbt.cell (p := ⟨b2, 0, none⟩) l2 (fun e => a2 (by dsimp only at e; rw [e]; rfl))).trans m2
        have := groupCmp_any b1 n1 c1 b2 n2 c2 (hdG x.1) (hdG y.1) _ k1 k2 m1' m2'
        simp only [e1, e2]
        refine this.mono ?_
        rintro e w' ⟨rfl, rfl⟩
        exact ⟨rfl, 1, rfl⟩
      have hO : SWO (ltOf (fun x y : {x : Gp // x ∈ L} => Lib.compareInt (hdG x.1) (hdG y.1))) := by
        refine ⟨fun x => ?_, fun x y z => ?_, fun x y z => ?_⟩ <;> simp only [cmp_lt, decide_eq_true_eq, decide_eq_false_iff_not] <;> omega
      have h1c : Go.Proofs.OneCell (fun x : {x : Gp // x ∈ L} => x.1.v) := fun x => by
        obtain ⟨ao, c, e, -⟩ := (h.pts x.1 x.2).slice
        show x.1.v.oneCell' = true
        rw [e]; rfl
      have hsz : L.attach.toArray.size = L.length := by rw [List.size_toArray, List.length_attach]
      have hT : ∀ x y : {x : Gp // x ∈ L}, ltOf (fun x y : {x : Gp // x ∈ L} => Lib.compareInt (hdG x.1) (hdG y.1)) x y = false → ltOf (fun x y : {x : Gp // x ∈ L} => Lib.compareInt (hdG x.1) (hdG y.1)) y x = false → x = y := fun x y e1 e2 => by
        rw [cmp_lt (fun x : {x : Gp // x ∈ L} => hdG x.1)] at e1 e2
        rw [decide_eq_false_iff_not] at e1 e2
        exact Subtype.ext (hd x.1 x.2 y.1 y.2 (by omega))
      have hlt : L.attach.toArray.size < 4611686018427387904 := by rw [hsz]; omega
      have key := Try.slices_SortFunc_total (fun x : {x : Gp // x ∈ L} => x.1.v) h1c (fun x y => Lib.compareInt (hdG x.1) (hdG y.1)) hO 94 #[] g 0 cap L.attach.toArray W (enters_of Try.func94 (by kernel_rfl) rfl) hcmp.lays hH (Array.getElem?_eq_some_iff.1 hg).1 hlt hT
      rw [hsz] at key
      refine key.mono ?_
      rintro e w' ⟨rfl, n, os, rfl⟩
      have hgr : W.grownBy (sortWorld (fun x : {x : Gp // x ∈ L} => x.1.v) W g 0 n (L.attach.toArray.toList.mergeSort fun x y => !(ltOf fun x y => Lib.compareInt (hdG x.1) (hdG y.1)) y x).toArray os) (some g) := sorted_grown _
      have hbt := But.of_grown (S := fun b => b = g) hgr (fun k e => by cases e; rfl)
      have hmap : (L.attach.toArray.toList.mergeSort fun x y => !(ltOf fun x y : {x : Gp // x ∈ L} => Lib.compareInt (hdG x.1) (hdG y.1)) y x).map Subtype.val = L.mergeSort fun x y => decide (hdG x ≤ hdG y) := by
        rw [List.map_mergeSort (s := fun x y => decide (hdG x ≤ hdG y)) (fun a _ b _ => by
          rw [cmp_lt (fun x : {x : Gp // x ∈ L} => hdG x.1), ← decide_not, decide_eq_decide]; omega)]
        rw [List.toList_toArray, List.attach_map_subtype_val]
      have hheap := sorted_heap (enc := fun x : {x : Gp // x ∈ L} => x.1.v) (n := n) (os := os) (L.attach.toArray.toList.mergeSort fun x y => !(ltOf fun x y => Lib.compareInt (hdG x.1) (hdG y.1)) y x).toArray hg
      generalize (L.attach.toArray.toList.mergeSort fun x y => !(ltOf fun x y : {x : Gp // x ∈ L} => Lib.compareInt (hdG x.1) (hdG y.1)) y x) = ts at *
      have hlen : ts.length = L.length := by
        have := congrArg List.length hmap
        rwa [List.length_map, List.length_mergeSort] at this
      rw [Nat.mul_one] at h3
      refine ⟨rfl, ⟨⟨?_, .inr ⟨g, cap, _, ?_, hlo, hheap, ?_, h2, ?_, ?_⟩⟩, fun x hx => ?_, fun x hx => ?_⟩, hgr⟩
      · rw [gpCells_len]; omega
      · rw [List.length_mergeSort]
      · rw [List.length_mergeSort]; exact h1
      · simp [putCells, h3]
      · rw [List.length_mergeSort, Nat.mul_one, ← hlen, sorted_take _ _ (by omega), ← hmap]
        unfold gpCells; rw [List.map_map]; rfl
      · have hx2 := List.mem_mergeSort.1 hx
        exact (h.pts x hx2).but hbt (fun b e q => h.ap x hx2 b e (by subst q; rfl))
      · exact h.ap x (List.mem_mergeSort.1 hx)
end Go.Proofs.Ytjjkabgbcflipaa
namespace Go.Proofs.Ytjjkabgbcflipaa
open Go Go.Proofs Go.RowKit Go.Shelf GM

attribute [local go_sem] Oper.semAt_some

def nxR (P : Nat) (E : List Ed) : Nat → List Nat := nxt (esN (fun d => d.f) E) (lsN P (fun d => d.t) E)
def GroupsQ (P : Nat) (E : List Ed) (nxF : Nat → List Nat) (w : World) : Ending → World → Prop := fun e w' =>
  ∃ (t : List Nat) (us : List (List Nat)) (v : Value) (L : List Gp), e = .returned v ∧ VL nxF (fun _ => False) (List.range P) t ∧ GR (nxR P E) t.reverse us.flatten us ∧ L.map Gp.l = us.map sortN ∧ GvAt w.heap.size w' v (L.mergeSort fun x y => decide (hdG x ≤ hdG y)) ∧ Below w.heap.size w w'
theorem GvAt.mono {lo lo' : Nat} {W : World} {v : Value} {L : List Gp} (h : GvAt lo W v L) (hl : lo' ≤ lo) : GvAt lo' W v L := ⟨World.ownsRow.mono h.own hl, fun x hx => (h.pts x hx).mono hl, h.ap⟩
theorem len_flat : ∀ (us : List (List Nat)), (∀ u ∈ us, u ≠ []) → us.length ≤ us.flatten.length
  | [], _ => Nat.le_refl _
  | u :: us, h => by
    have h1 := len_flat us (fun x hx => h x (List.mem_cons_of_mem _ hx))
    have h2 := List.length_pos_iff.2 (h u (List.mem_cons_self ..))
    rw [List.flatten_cons, List.length_append, List.length_cons]; omega
theorem back_order (t : List Nat) (ys : List (Fin t.length)) (h : ys.map (fun x => x.val) = (List.range t.length).reverse) : ys.map (fun x => atD t x.val) = t.reverse := by
  have h1 : ys.map (fun x => atD t x.val) = (ys.map (fun x => x.val)).map (atD t) := by rw [List.map_map]; rfl
  rw [h1, h, List.map_reverse]
  congr 1
  refine List.ext_getElem (by simp) (fun i h1 h2 => ?_)
  simp only [List.getElem_map, List.getElem_range]
  have := atD_get h2
  rw [List.getElem?_eq_getElem h2] at this
  exact (Option.some.inj this).symm
set_option maxRecDepth 100000 in
set_option maxHeartbeats 600000 in
theorem groupsOf_any {A : Nat → Prop} {P : Nat} {x : Int} {ao : Option Addr} {c : Nat} {E : List Ed} {es : List Nat} {ls : List (List Nat)} {ve vl : Value} (w : World) (hP1 : 0 < P) (hP : P ≤ 512) (hlen : E.length ≤ 1024) (h0 : ckG P x E = 0) (hr : ERow A w ao c E)
    (hv : VR (fun b => b < w.heap.size) w ve vl P es ls) (hls : ∀ p, (rowD ls p).length ≤ 100000) (hes : es.length ≤ 100000) :
    Calls Try.prog 71 #[.agg #[.int .i64 (P : Int), .int .i64 x, .slice ao E.length c], .agg #[ve, vl]] w (GroupsQ P E (nxt es ls) w) := by
  obtain ⟨eo, ec, rfl⟩ := hv.ends.slice
  obtain ⟨tb, tc, rfl, -⟩ := hv.tab
  have CF := fun W hW => backward_vr P x ao c E W (hr.keep (B := A) (But.of_below (S := fun _ => False) (w' := W) hW) (fun _ h _ => ⟨id, h⟩)) h0
  have KF := Lib.hid CF
  clear CF hr
  have hz0 : ((w.alloc (Obj.cells #[.int .i64 (P : Int), .int .i64 x, .slice ao E.length c] 24)).alloc (Obj.cells #[.slice eo es.length ec, .slice (some ⟨tb, 0, none⟩) P tc] 89)).heap.size = w.heap.size + 1 + 1 := by simp
  have hzM : (((w.alloc (Obj.cells #[.int .i64 (P : Int), .int .i64 x, .slice ao E.length c] 24)).alloc (Obj.cells #[.slice eo es.length ec, .slice (some ⟨tb, 0, none⟩) P tc] 89)).alloc (.cells (Array.replicate P (.bool false)) 4)).heap.size = w.heap.size + 1 + 1 + 1 := by simp
  have hz1 : ((((w.alloc (Obj.cells #[.int .i64 (P : Int), .int .i64 x, .slice ao E.length c] 24)).alloc (Obj.cells #[.slice eo es.length ec, .slice (some ⟨tb, 0, none⟩) P tc] 89)).alloc (.cells (Array.replicate P (.bool false)) 4)).alloc (.cells #[.slice (some ⟨w.heap.size + 1 + 1, 0, none⟩) P P] 33)).heap.size = w.heap.size + 1 + 1 + 1 + 1 := by simp
  have bA : Below w.heap.size w ((w.alloc (Obj.cells #[.int .i64 (P : Int), .int .i64 x, .slice ao E.length c] 24)).alloc (Obj.cells #[.slice eo es.length ec, .slice (some ⟨tb, 0, none⟩) P tc] 89)) := ((Below.refl _ _).alloc (Nat.le_refl _) _).alloc (by simp) _
  have bM : Below w.heap.size w (((w.alloc (Obj.cells #[.int .i64 (P : Int), .int .i64 x, .slice ao E.length c] 24)).alloc (Obj.cells #[.slice eo es.length ec, .slice (some ⟨tb, 0, none⟩) P tc] 89)).alloc (.cells (Array.replicate P (.bool false)) 4)) := bA.alloc (by simp; omega) _
  have bB : Below w.heap.size w ((((w.alloc (Obj.cells #[.int .i64 (P : Int), .int .i64 x, .slice ao E.length c] 24)).alloc (Obj.cells #[.slice eo es.length ec, .slice (some ⟨tb, 0, none⟩) P tc] 89)).alloc (.cells (Array.replicate P (.bool false)) 4)).alloc (.cells #[.slice (some ⟨w.heap.size + 1 + 1, 0, none⟩) P P] 33)) := bM.alloc (by simp; omega) _
  have bX : Below (((w.alloc (Obj.cells #[.int .i64 (P : Int), .int .i64 x, .slice ao E.length c] 24)).alloc (Obj.cells #[.slice eo es.length ec, .slice (some ⟨tb, 0, none⟩) P tc] 89)).alloc (.cells (Array.replicate P (.bool false)) 4)).heap.size (((w.alloc (Obj.cells #[.int .i64 (P : Int), .int .i64 x, .slice ao E.length c] 24)).alloc (Obj.cells #[.slice eo es.length ec, .slice (some ⟨tb, 0, none⟩) P tc] 89)).alloc (.cells (Array.replicate P (.bool false)) 4)) ((((w.alloc (Obj.cells #[.int .i64 (P : Int), .int .i64 x, .slice ao E.length c] 24)).alloc (Obj.cells #[.slice eo es.length ec, .slice (some ⟨tb, 0, none⟩) P tc] 89)).alloc (.cells (Array.replicate P (.bool false)) 4)).alloc (.cells #[.slice (some ⟨w.heap.size + 1 + 1, 0, none⟩) P P] 33)) := (Below.refl _ _).alloc (Nat.le_refl _) _
  have g0 : ((((w.alloc (Obj.cells #[.int .i64 (P : Int), .int .i64 x, .slice ao E.length c] 24)).alloc (Obj.cells #[.slice eo es.length ec, .slice (some ⟨tb, 0, none⟩) P tc] 89)).alloc (.cells (Array.replicate P (.bool false)) 4)).alloc (.cells #[.slice (some ⟨w.heap.size + 1 + 1, 0, none⟩) P P] 33)).cell? ⟨w.heap.size, 0, none⟩ = some (.int .i64 (P : Int)) := by go_cell
  have g1 : ((((w.alloc (Obj.cells #[.int .i64 (P : Int), .int .i64 x, .slice ao E.length c] 24)).alloc (Obj.cells #[.slice eo es.length ec, .slice (some ⟨tb, 0, none⟩) P tc] 89)).alloc (.cells (Array.replicate P (.bool false)) 4)).alloc (.cells #[.slice (some ⟨w.heap.size + 1 + 1, 0, none⟩) P P] 33)).cell? ⟨w.heap.size, 1, none⟩ = some (.int .i64 x) := by go_cell
  have g2 : ((((w.alloc (Obj.cells #[.int .i64 (P : Int), .int .i64 x, .slice ao E.length c] 24)).alloc (Obj.cells #[.slice eo es.length ec, .slice (some ⟨tb, 0, none⟩) P tc] 89)).alloc (.cells (Array.replicate P (.bool false)) 4)).alloc (.cells #[.slice (some ⟨w.heap.size + 1 + 1, 0, none⟩) P P] 33)).cell? ⟨w.heap.size, 2, none⟩ = some (.slice ao E.length c) := by go_cell
  have k2 : ((((w.alloc (Obj.cells #[.int .i64 (P : Int), .int .i64 x, .slice ao E.length c] 24)).alloc (Obj.cells #[.slice eo es.length ec, .slice (some ⟨tb, 0, none⟩) P tc] 89)).alloc (.cells (Array.replicate P (.bool false)) 4)).alloc (.cells #[.slice (some ⟨w.heap.size + 1 + 1, 0, none⟩) P P] 33)).cell? ⟨w.heap.size + 1, 0, none⟩ = some (.slice eo es.length ec) := by go_cell
  have k3 : ((((w.alloc (Obj.cells #[.int .i64 (P : Int), .int .i64 x, .slice ao E.length c] 24)).alloc (Obj.cells #[.slice eo es.length ec, .slice (some ⟨tb, 0, none⟩) P tc] 89)).alloc (.cells (Array.replicate P (.bool false)) 4)).alloc (.cells #[.slice (some ⟨w.heap.size + 1 + 1, 0, none⟩) P P] 33)).cell? ⟨w.heap.size + 1, 1, none⟩ = some (.slice (some ⟨tb, 0, none⟩) P tc) := by go_cell
  have k4 : ((((w.alloc (Obj.cells #[.int .i64 (P : Int), .int .i64 x, .slice ao E.length c] 24)).alloc (Obj.cells #[.slice eo es.length ec, .slice (some ⟨tb, 0, none⟩) P tc] 89)).alloc (.cells (Array.replicate P (.bool false)) 4)).alloc (.cells #[.slice (some ⟨w.heap.size + 1 + 1, 0, none⟩) P P] 33)).cell? ⟨w.heap.size + 1 + 1 + 1, 0, none⟩ = some (.slice (some ⟨w.heap.size + 1 + 1, 0, none⟩) P P) := by go_cell
  have hm := MkAt.made ((w.alloc (Obj.cells #[.int .i64 (P : Int), .int .i64 x, .slice ao E.length c] 24)).alloc (Obj.cells #[.slice eo es.length ec, .slice (some ⟨tb, 0, none⟩) P tc] 89)) P
  rw [hz0] at hm
  have hm1 := hm.below bX
  have hmk := make_bools ((w.alloc (Obj.cells #[.int .i64 (P : Int), .int .i64 x, .slice ao E.length c] 24)).alloc (Obj.cells #[.slice eo es.length ec, .slice (some ⟨tb, 0, none⟩) P tc] 89)) P (by omega)
  rw [hz0] at hmk
  have G0 := Lib.hid g0; have G1 := Lib.hid g1; have G2 := Lib.hid g2; have K2 := Lib.hid k2; have K3 := Lib.hid k3; have K4 := Lib.hid k4; have HM := Lib.hid hm1; have BB := Lib.hid bB
  have HZ := Lib.hid hz1
  have HV := Lib.hid (hv.keep (KA.of_below bB) (fun _ h _ => (h : _ < w.heap.size)))
  clear k2 k3 k4 hm hm1 bA bM bX bB hv g1 g2
  refine (callsIn_wide (n := 6)).1 ?_
  refine callsIn_of_wp_marks Try.func71 rfl trivial ?_ rfl
  simp only [Try.ntmps71, List.size_toArray, List.length_cons, List.length_nil, Nat.reduceAdd, Nat.reduceSub, Array.replicate_succ, Array.replicate_zero, List.push_toArray, List.append_toArray, List.nil_append, List.cons_append]
  refine wpIn_wide.2 ?_
  go_wp2_with fail
  clear hmk hz1 hz0 hzM g0
  generalize ((((w.alloc (Obj.cells #[.int .i64 (P : Int), .int .i64 x, .slice ao E.length c] 24)).alloc (Obj.cells #[.slice eo es.length ec, .slice (some ⟨tb, 0, none⟩) P tc] 89)).alloc (.cells (Array.replicate P (.bool false)) 4)).alloc (.cells #[.slice (some ⟨w.heap.size + 1 + 1, 0, none⟩) P P] 33)) = W at *
  go_loopw [6, 18] (fun pv iv wr => ∃ (j : Nat) (t : List Nat), j ≤ P ∧ iv = .int .i64 (j : Int) ∧ VL (nxt es ls) (fun _ => False) (List.range j) t ∧ ownI W.heap.size wr pv (t.map fun (n : Nat) => (n : Int)) ∧
        MkAt wr (w.heap.size + 1 + 1) P (unionB (fun _ => false) t) ∧ But (fun b => b = w.heap.size + 1 + 1) W wr ∧ t.length + cntF (unionB (fun _ => false) t) P ≤ P) (fun _ iv _ => P - (intOf iv).toNat)
  case atStart => exact ⟨0, [], Nat.zero_le _, rfl, .nil, ownI.nil, by rw [unionB_nil]; exact HM.out, But.refl _ _, by rw [unionB_nil]; simpa using cntF_le (fun _ => false) P⟩
  case round =>
    obtain ⟨j, t, hj, rfl, hvl, hown, hm, hB, hcnt⟩ := hrel
    obtain ⟨po, pc, rfl, -, -, -⟩ := hown.slice
    have hlen0 : (t.map fun (n : Nat) => (n : Int)).length = t.length := by simp
    generalize hnn : (t.map fun (n : Nat) => (n : Int)).length = nn at *
    have hM0 : w.heap.size + 1 + 1 < W.heap.size := by have := HZ.out; omega
    have hBlow : Below w.heap.size w wr := BB.out.trans ⟨hB.os, hB.tape, hB.output, hB.size, fun k hk => hB.block k (by omega) (by omega)⟩
    have hzz := HZ.out
    have y0 := (hB.cell (p := ⟨w.heap.size + 1, 0, none⟩) (by dsimp only; omega) (by dsimp only; omega)).trans K2.out
    have y1 := (hB.cell (p := ⟨w.heap.size + 1, 1, none⟩) (by dsimp only; omega) (by dsimp only; omega)).trans K3.out
    have y2 := (hB.cell (p := ⟨w.heap.size + 1 + 1 + 1, 0, none⟩) (by dsimp only; omega) (by dsimp only; omega)).trans K4.out
    have y3 := (hB.cell (p := ⟨w.heap.size, 0, none⟩) (by dsimp only; omega) (by dsimp only; omega)).trans G0.out
    have y4 := (hB.cell (p := ⟨w.heap.size, 1, none⟩) (by dsimp only; omega) (by dsimp only; omega)).trans G1.out
    have y5 := (hB.cell (p := ⟨w.heap.size, 2, none⟩) (by dsimp only; omega) (by dsimp only; omega)).trans G2.out
    have HNN := Lib.hid hnn; have HL0 := Lib.hid hlen0; clear hnn hlen0
    have HBL := Lib.hid hBlow; have HVL := Lib.hid hvl; have HO := Lib.hid hown; have HM4 := Lib.hid hm; have HB4 := Lib.hid hB; have HC := Lib.hid hcnt; have HM0 := Lib.hid hM0
    clear hBlow hvl hown hm hB hcnt hM0
    by_cases hlt : j < P
    · have HLT := Lib.hid hlt
      have kv := visit_any wr (by omega) hls hes (w.heap.size + 1 + 1) j (unionB (fun _ => false) t) hlt (HV.out.keep (KA.of_but HB4.out (fun b h1 _ => by have h1' : b < w.heap.size := h1; omega)) (fun b h _ => ⟨by have h1' : b < w.heap.size := h; have := HB4.out.size; omega, by have h1' : b < w.heap.size := h; omega⟩)) HM4.out
      have KV := Lib.hid kv
      clear kv
      go_wp2_with (first | (go_at_call 52; refine (KV.out).mono ?_; rintro e w4 ⟨t2, v2, rfl, g1, g2, g3, g4, g5⟩; refine Hid.out ?_) | fail)
      have hlow : ∀ b, (Value.slice po nn pc).ownBlock = some b → W.heap.size ≤ b := fun b e => (HO.out.lt e).1
      have ho4 := HO.out.but g4 (fun b e => by have := hlow b e; have := HM0.out; omega)
      have hbw4 := HB4.out.trans g4 (fun _ _ e => e)
      have hln : (t.map fun (n : Nat) => (n : Int)).length + (t2.map fun (n : Nat) => (n : Int)).length ≤ 1200000 := by
        have := HC.out; simp only [List.length_map]; omega
      have HO4 := Lib.hid ho4; have G1' := Lib.hid g1; have G2' := Lib.hid g2; have G3 := Lib.hid g3; have G5 := Lib.hid g5; have HBW := Lib.hid hbw4; have HLN := Lib.hid hln; have HLOW := Lib.hid hlow
      have HW4 := Lib.hid (hbw4.size)
      clear ho4 g1 g2 g3 g4 g5 hbw4 hln hlow y0 y1 y2 y3 y4 y5
      refine Lib.hid ?_
      go_wp2_with (first | (at_builtin; refine wpList_appI (lo := W.heap.size) rfl (.tmp 21) (.tmp 25) rfl (by simp [Act.eval, Act.put]) HO4.out (by simp [Act.eval, Act.put]) G2'.out HLN.out HW4.out ?_; intro v9 w9 h9 hg9 hgg; refine Hid.out ?_) | fail)
      have hgb := But.of_grown (S := fun b => W.heap.size ≤ b) hg9 (fun b e => HLOW.out b e)
      have hm9 := G3.out.but hgb (by have := HM0.out; omega)
      rw [unionB_app] at hm9
      have hb9 := HBW.out.trans hgb (fun k h1 h2 => by omega)
      have hv9 : VL (nxt es ls) (fun _ => False) (List.range (j + 1)) (t ++ t2) := by
        rw [List.range_succ]
        exact HVL.out.app (G1'.out.congr (fun x => by rw [unionB_iff]; simp))
      have ho9 : ownI W.heap.size w9 v9 ((t ++ t2).map fun (n : Nat) => (n : Int)) := by
        rw [List.map_append]; exact h9
      have hc9 : (t ++ t2).length + cntF (unionB (fun _ => false) (t ++ t2)) P ≤ P := by
        have h5 := G5.out; have h6 := HC.out
        rw [unionB_app] at h5
        rw [List.length_append]; omega
      have H9 := Lib.hid ho9; have M9 := Lib.hid hm9; have B9 := Lib.hid hb9; have V9 := Lib.hid hv9; have C9 := Lib.hid hc9
      clear ho9 hm9 hb9 hv9 hc9 h9 hg9 hgg hgb
      refine Lib.hid ?_
      go_wp2
      go_roundw
      case rel => exact ⟨j + 1, t ++ t2, HLT.out, by go_num, V9.out, H9.out, M9.out, B9.out, C9.out⟩
      case measure => have := HLT.out; simp [intOf]; omega
    · have hjn : j = P := by omega
      subst hjn
      have hcl := fun ty => clear_marks HM4.out hP1 ty
      have hbc : But (fun b => b = w.heap.size + 1 + 1) wr (wr.setCells (w.heap.size + 1 + 1) 0 (List.replicate j (.bool false))) := But.setCells (S := fun b => b = w.heap.size + 1 + 1) rfl _ _ _
      have hmc := HM4.out.cleared
      have hzr := HB4.out.size
      have hzz2 := HZ.out
      have z3 := (hbc.cell (p := ⟨w.heap.size, 0, none⟩) (by dsimp only; omega) (by dsimp only; omega)).trans y3
      have z4 := (hbc.cell (p := ⟨w.heap.size, 1, none⟩) (by dsimp only; omega) (by dsimp only; omega)).trans y4
      have z5 := (hbc.cell (p := ⟨w.heap.size, 2, none⟩) (by dsimp only; omega) (by dsimp only; omega)).trans y5
      have z2 := (hbc.cell (p := ⟨w.heap.size + 1 + 1 + 1, 0, none⟩) (by dsimp only; omega) (by dsimp only; omega)).trans y2
      have ho2 := HO.out.but hbc (fun b e q => by have := (HO.out.lt e).1; have := HM0.out; omega)
      have hB2 := HB4.out.trans hbc (fun _ _ e => e)
      have hbl2 : Below w.heap.size w (wr.setCells (w.heap.size + 1 + 1) 0 (List.replicate j (.bool false))) := BB.out.trans ⟨hB2.os, hB2.tape, hB2.output, hB2.size, fun k hk => hB2.block k (by omega) (by omega)⟩
      have HMC := Lib.hid hmc; have HO2 := Lib.hid ho2; have HB2 := Lib.hid hB2; have HBL2 := Lib.hid hbl2
      have HB4z : Hid (w.heap.size + 1 + 1 + 1 + 1 ≤ W.heap.size) := Lib.hid (by omega)
      clear hmc ho2 hB2 hbl2 hbc y0 y1 HM4 HO HB4 HBL
      go_wp2_with (go_at_call 49; refine (KF.out _ HBL2.out).mono ?_; rintro e w5 ⟨e5, l5, rfl, v5, b5⟩; refine Hid.out ?_)
      obtain ⟨eo5, ec5, rfl⟩ := v5.ends.slice
      obtain ⟨tb5, tc5, rfl, -⟩ := v5.tab
      generalize hC : wr.setCells (w.heap.size + 1 + 1) 0 (List.replicate j (.bool false)) = C at *
      clear hC hcl z3 z4 z5
      have hCl : w.heap.size + 1 + 1 + 1 + 1 ≤ C.heap.size := by have := HB2.out.size; omega
      obtain rfl : nn = t.length := HL0.out
      have HV5 := Lib.hid v5; have HB5 := Lib.hid b5; have HZ2 := Lib.hid z2
      clear v5 b5 z2
      refine Lib.hid ?_
      go_wp2_with (go_at_call 75; refine (backw_any po t.length pc _).mono ?_; rintro e w6 ⟨rfl, rfl⟩)
      have hz5 : ((w5.alloc (Obj.cells #[.slice eo5 (esN (fun d => d.f) E).length ec5, .slice (some ⟨tb5, 0, none⟩) j tc5] 89)).alloc (Obj.cells #[nilS] 27)).heap.size = w5.heap.size + 1 + 1 := by simp
      have hz6 : (((w5.alloc (Obj.cells #[.slice eo5 (esN (fun d => d.f) E).length ec5, .slice (some ⟨tb5, 0, none⟩) j tc5] 89)).alloc (Obj.cells #[nilS] 27)).alloc (.cells #[.slice po t.length pc] 51)).heap.size = w5.heap.size + 1 + 1 + 1 := by simp
      have b6 : Below w5.heap.size w5 (((w5.alloc (Obj.cells #[.slice eo5 (esN (fun d => d.f) E).length ec5, .slice (some ⟨tb5, 0, none⟩) j tc5] 89)).alloc (Obj.cells #[nilS] 27)).alloc (.cells #[.slice po t.length pc] 51)) := (((Below.refl _ _).alloc (Nat.le_refl _) _).alloc (by simp) _).alloc (by simp; omega) _
      have r0 : (((w5.alloc (Obj.cells #[.slice eo5 (esN (fun d => d.f) E).length ec5, .slice (some ⟨tb5, 0, none⟩) j tc5] 89)).alloc (Obj.cells #[nilS] 27)).alloc (.cells #[.slice po t.length pc] 51)).cell? ⟨w5.heap.size, 0, none⟩ = some (.slice eo5 (esN (fun d => d.f) E).length ec5) := by go_cell
      have r1 : (((w5.alloc (Obj.cells #[.slice eo5 (esN (fun d => d.f) E).length ec5, .slice (some ⟨tb5, 0, none⟩) j tc5] 89)).alloc (Obj.cells #[nilS] 27)).alloc (.cells #[.slice po t.length pc] 51)).cell? ⟨w5.heap.size, 1, none⟩ = some (.slice (some ⟨tb5, 0, none⟩) j tc5) := by go_cell
      have r2 : (((w5.alloc (Obj.cells #[.slice eo5 (esN (fun d => d.f) E).length ec5, .slice (some ⟨tb5, 0, none⟩) j tc5] 89)).alloc (Obj.cells #[nilS] 27)).alloc (.cells #[.slice po t.length pc] 51)).cell? ⟨w5.heap.size + 1, 0, none⟩ = some nilS := by go_cell
      have r3 := ((Boxed.new (w5.alloc (Obj.cells #[.slice eo5 (esN (fun d => d.f) E).length ec5, .slice (some ⟨tb5, 0, none⟩) j tc5] 89)) 27 nilS).alloc (.cells #[.slice po t.length pc] 51)).frozen
      simp only [World.size_alloc] at r3
      have r4 : (((w5.alloc (Obj.cells #[.slice eo5 (esN (fun d => d.f) E).length ec5, .slice (some ⟨tb5, 0, none⟩) j tc5] 89)).alloc (Obj.cells #[nilS] 27)).alloc (.cells #[.slice po t.length pc] 51)).cell? ⟨w5.heap.size + 1 + 1, 0, none⟩ = some (.slice po t.length pc) := by go_cell
      have ho6 := (HO2.out.below HB5.out).below b6
      have hm6 := (HMC.out.below HB5.out).below b6
      have hw6 : Below w.heap.size w (((w5.alloc (Obj.cells #[.slice eo5 (esN (fun d => d.f) E).length ec5, .slice (some ⟨tb5, 0, none⟩) j tc5] 89)).alloc (Obj.cells #[nilS] 27)).alloc (.cells #[.slice po t.length pc] 51)) := Below.chain (Below.chain HBL2.out HB5.out) b6
      have z6 := (b6.cell (p := ⟨w.heap.size + 1 + 1 + 1, 0, none⟩) (by have := HB5.out.size; dsimp only; omega)).trans ((HB5.out.cell (p := ⟨w.heap.size + 1 + 1 + 1, 0, none⟩) (by dsimp only; omega)).trans HZ2.out)
      have v6 := HV5.out.keep (B := fun b => b < (((w5.alloc (Obj.cells #[.slice eo5 (esN (fun d => d.f) E).length ec5, .slice (some ⟨tb5, 0, none⟩) j tc5] 89)).alloc (Obj.cells #[nilS] 27)).alloc (.cells #[.slice po t.length pc] 51)).heap.size ∧ b ≠ w.heap.size + 1 + 1 ∧ b ≠ w5.heap.size + 1) (KA.of_below b6) (fun b h1 h2 => ⟨by omega, by have h1' : C.heap.size ≤ b := h1; omega, by omega⟩)
      have hbound : ∀ q ∈ t, q < j := VL.bound (by rw [show List.range j = List.range j from rfl]; exact HVL.out) j (fun q hq => List.mem_range.1 hq) (fun q hq => nxt_lt HV.out hq)
      have hC5 := HB5.out.size
      generalize (((w5.alloc (Obj.cells #[.slice eo5 (esN (fun d => d.f) E).length ec5, .slice (some ⟨tb5, 0, none⟩) j tc5] 89)).alloc (Obj.cells #[nilS] 27)).alloc (.cells #[.slice po t.length pc] 51)) = W6 at *
      have hgc : GC w W6.heap.size (w.heap.size + 1 + 1) w5.heap.size (w.heap.size + 1 + 1 + 1) (w5.heap.size + 1) j (esN (fun d => d.f) E) (lsN j (fun d => d.t) E) (.slice eo5 (esN (fun d => d.f) E).length ec5) (.slice (some ⟨tb5, 0, none⟩) j tc5) [] W6 [] nilS [] :=
        ⟨.nil, rfl, r2, r3, GvAt.nil _ _, by rw [List.flatten_nil, unionB_nil]; exact hm6, r0, r1, z6, v6, hw6, Nat.le_refl _, by rw [List.flatten_nil, unionB_nil]; simpa using cntF_le (fun _ => false) j, by omega⟩
      have hir : IR (fun b => b < W6.heap.size ∧ b ≠ w.heap.size + 1 + 1 ∧ b ≠ w5.heap.size + 1) W6 (.slice po t.length pc) t := IR.of_own ho6 (fun b e => by
        have h1 := (ho6.lt e).1
        have h2 := (HO2.out.lt e).2
        have h3 := HB4z.out
        exact ⟨by omega, by omega, by omega⟩)
      have htl : t.length ≤ j := by have := HC.out; omega
      have hst := backw_stops (A := fun b => b < W6.heap.size ∧ b ≠ w.heap.size + 1 + 1 ∧ b ≠ w5.heap.size + 1) 5 (by omega) (w5.heap.size + 1 + 1) W6 hir (by omega) ⟨by omega, by omega, by omega⟩ (by omega) r4
      have hbE : (esN (fun d => d.f) E).length ≤ 100000 := by unfold esN; rw [List.length_map]; omega
      have hbL : ∀ q, (rowD (lsN j (fun d => d.t) E) q).length ≤ 100000 := fun q => Nat.le_trans (lsN_len j q _ E) (by omega)
      have HBD := Lib.hid hbound; have HVF := Lib.hid HVL.out; have HBE := Lib.hid hbE; have HBL' := Lib.hid hbL
      clear r0 r1 r2 r3 r4 ho6 hm6 hw6 z6 v6 hbound hir HO2 HMC HBL2 HB5 HV5 HZ2 HM0 HL0 HNN HV HVL b6 hz5 hz6 KF K2 K3 K4 G0 G1 G2 HM BB HZ hbE hbL HB2 HB4z
      refine (wpIn_wide (n := 6)).1 ?_
      refine wpIn_rangeFunc_ownG rfl (by omega) (gf := 98) (lb := #[.pointer (some ⟨w5.heap.size + 1 + 1, 0, none⟩)]) (by simp [Act.eval]) trivial (enters_of Try.func98 (by kernel_rfl) rfl)
        hst (fun {A B C} h k => h.trans k) ?hKb (Below.refl _ _) (fun _ => rfl)
        (GJ w W6.heap.size (w.heap.size + 1 + 1) w5.heap.size (w.heap.size + 1 + 1 + 1) (w5.heap.size + 1) j (esN (fun d => d.f) E) (lsN j (fun d => d.t) E) (.slice eo5 (esN (fun d => d.f) E).length ec5) (.slice (some ⟨tb5, 0, none⟩) j tc5) t)
        (fun _ _ _ => False)
        GJ.own
        (fun _ _ _ _ _ hs _ _ => hs)
        ⟨[], nilS, [], hgc⟩
        ?a1 ?assign ?body ?done ?stop
      case hKb =>
        intro W4 lp o o' hl _ _ _
        refine ⟨by simp, fun b hb hlt => World.putObj_heap_other ?_⟩
        have := hb.1; omega
      case assign =>
        intro lp x W4 K hK
        unfold bEnc
        gi_wp2
        exact hK
      case body =>
        rintro lp pre x W4 ⟨us, vg, L, h⟩ hlt
        have hx := HBD.out (atD t x.val) (atD_mem x.isLt)
        have hmap : (pre ++ [x]).map (fun x => atD t x.val) = pre.map (fun x => atD t x.val) ++ [atD t x.val] := by simp
        have HMAP := Lib.hid hmap
        clear hmap
        generalize atD t x.val = p at *
        have y0 := h.v0; have y1 := h.v1; have y2 := h.mb
        have hgsz := h.size
        have hM5 := h.d.2.1
        have kv := visit_any W4 (by omega) HBL'.out HBE.out (w.heap.size + 1 + 1) p (unionB (fun _ => false) us.flatten) hx (h.view.keep (KA.refl _ _) (fun b h1 h2 => ⟨h2, h1.2.1⟩)) h.mks
        have KV := Lib.hid kv; have HG := Lib.hid h
        clear kv h
        gi_wp2_with fail
        refine ⟨trivial, (CallsIn.inRound lp (callsIn_wide.2 KV.out)).mono ?_⟩
        rintro e W7 ⟨u, v', rfl, g1, g2, g3, g4, g5⟩
        obtain ⟨uo, uc, rfl, -, -, -⟩ := g2.slice
        by_cases hu : u = []
        · subst hu
          have hold := HG.out.old g1 g3 g4
          have hk := HG.out.keeps (g4.mono (fun k _ e => .inl e))
          have HOLD := Lib.hid hold; have HK := Lib.hid hk
          clear hold hk g1 g2 g3 g4 g5 y0 y1 y2
          simp only [List.map_nil, List.length_nil]
          gi_wp2
          exact ⟨HK.out.1, HK.out.2, us, vg, L, by rw [HMAP.out]; exact HOLD.out⟩
        · have hul : 0 < u.length := List.length_pos_iff.2 hu
          have hlu : (u.map fun (n : Nat) => (n : Int)).length = u.length := by simp
          have hP512 := hP
          have huP : u.length ≤ j := by have := cntF_le (unionB (fun _ => false) us.flatten) j; omega
          have ks := sort_own g2 (by rw [hlu]; omega)
          rw [sortN_map] at ks
          have KS := Lib.hid ks
          have G1 := Lib.hid g1; have G2 := Lib.hid g2; have G3 := Lib.hid g3; have G4 := Lib.hid g4; have G5 := Lib.hid g5; have HU := Lib.hid hu
          have hgB := HG.out.d.2.2.2.1
          clear g1 g2 g3 g4 g5 y0 y1 y2 ks hu
          generalize (u.map fun (n : Nat) => (n : Int)).length = ul at *
          subst hlu
          have t1 : decide ((0 : Int) < (u.length : Int)) = true := decide_eq_true (by omega)
          gi_wp2_with fail
          refine ⟨trivial, (CallsIn.inRound lp (callsIn_wide.2 KS.out)).mono ?_⟩
          rintro e W8 ⟨rfl, h8, hg8⟩
          have hown2 : ∀ b, (Value.slice uo u.length uc).ownBlock = some b → W4.heap.size ≤ b := fun b e => (G2.out.lt e).1
          have b78 : But (fun b => W4.heap.size ≤ b) W7 W8 := But.of_grown hg8 (fun b e => hown2 b e)
          have b48 : But (fun b => b = w.heap.size + 1 + 1) W4 W8 := G4.out.trans b78 (fun k hk e => absurd hk (by omega))
          have bA : Below W8.heap.size W8 (W8.alloc (.cells #[.slice uo u.length uc] 51)) := (Below.refl _ _).alloc (Nat.le_refl _) _
          have b4p := b48.next bA
          obtain ⟨p1, p2, p3, -, -, -, -, -, p9⟩ := HG.out.markStep b4p (fun _ _ e => e)
          obtain ⟨q1, q2, -⟩ := HG.out.markStep b48 (fun _ _ e => e)
          have h8p := (h8.mono (lo' := W6.heap.size) hgsz).below bA
          have cp : (W8.alloc (.cells #[.slice uo u.length uc] 51)).cell? ⟨W8.heap.size, 0, none⟩ = some (.slice uo u.length uc) := by go_cell
          have m8 := (G3.out.but b78 (by omega)).below bA
          have hap : ∀ b, (Value.slice uo u.length uc).ownBlock = some b → vg.ownBlock ≠ some b := fun b e q => by
            have h1 := hown2 b e; have h2 := (HG.out.gv.lt q).2; omega
          obtain ⟨vo, vc, hvge⟩ := HG.out.gv.slice
          have hLl : L.length ≤ 100000 := by
            have h1 := congrArg List.length HG.out.rows
            rw [List.length_map, List.length_map] at h1
            have h2 := len_flat us HG.out.gr.ne
            have h3 := HG.out.cnt
            omega
          have P3 := Lib.hid p3; have H8 := Lib.hid h8p; have HAP := Lib.hid hap; have M8 := Lib.hid m8; have B4P := Lib.hid b4p; have HLL := Lib.hid hLl; have P9 := Lib.hid p9; have CP := Lib.hid cp; have P1 := Lib.hid p1; have P2 := Lib.hid p2; have HVG := Lib.hid hvge
          have hgB8 : w5.heap.size + 1 < W8.heap.size := by have := b48.size; omega
          clear b78 b48 bA b4p p1 p2 p3 p9 h8p h8 hg8 cp m8 hap hLl hown2 t1 hvge
          gi_wp2_with (first | (gi_at_builtin; refine wpListIn_pushGv (lo := W6.heap.size) rfl (.tmp 44) (.tmp 46) rfl (by simp [Act.eval, Act.put]) P3.out H8.out HAP.out HLL.out P9.out W8.heap.size (by simp [Act.eval, Act.put]) CP.out ?_; intro g9 k9 n9 w9 hn9 h9 hg9 hgg; refine Hid.out ?_) | fail)
          have bp9 : But (fun b => vg.ownBlock = some b) (W8.alloc (.cells #[.slice uo u.length uc] 51)) w9 := But.of_grown hg9 (fun _ e => e)
          have hngb : ¬ vg.ownBlock = some (w5.heap.size + 1) := fun e => by have := (P3.out.lt e).1; omega
          have hnm : ¬ vg.ownBlock = some (w.heap.size + 1 + 1) := fun e => by have := (P3.out.lt e).1; omega
          have hgb9 : w5.heap.size + 1 < (W8.alloc (.cells #[.slice uo u.length uc] 51)).heap.size := by simp; omega
          have c9 := (bp9.cell (p := ⟨w5.heap.size + 1, 0, none⟩) hgb9 hngb).trans P1.out
          have f9 := (bp9.frozen (p := ⟨w5.heap.size + 1, 0, none⟩) hgb9 hngb).trans P2.out
          have m9 := M8.out.but bp9 hnm
          have b49 : But (fun b => b = w.heap.size + 1 + 1 ∨ b = w5.heap.size + 1 ∨ vg.ownBlock = some b) W4 w9 := (B4P.out.mono (fun k _ e => .inl e)).trans bp9 (fun _ _ e => .inr (.inr e))
          subst hn9
          have M9 := Lib.hid m9; have B49 := Lib.hid b49; have H9 := Lib.hid h9; have C9 := Lib.hid c9
          clear bp9 hngb hnm hgb9 m9 b49 h9 hg9 hgg M8 B4P P3 H8 HAP HLL CP P1 P2
          refine Lib.hid ?_
          gi_wp2
          have b4x := B49.out.set ⟨w5.heap.size + 1, 0, none⟩ (.slice (some ⟨g9, 0, none⟩) (L.length + 1) k9) (fun _ => .inr (.inl rfl))
          have hk := HG.out.keeps b4x
          refine ⟨hk.1, hk.2, us ++ [u], .slice (some ⟨g9, 0, none⟩) (L.length + 1) k9, L ++ [⟨.slice uo u.length uc, sortN u⟩], ?_⟩
          rw [HMAP.out]
          refine HG.out.new HU.out G1.out (M9.out.but (But.set (S := fun b => b = w5.heap.size + 1) (But.refl _ w9) ⟨w5.heap.size + 1, 0, none⟩ _ (fun _ => rfl)) (by have := HG.out.d.2.2.2.2.2.2.1; omega)) G5.out b4x (cellSet C9.out _) (by rw [World.frozen?_setCell]; exact f9) (H9.out.but (But.set (S := fun b => b = w5.heap.size + 1) (But.refl _ w9) ⟨w5.heap.size + 1, 0, none⟩ _ (fun _ => rfl)) (fun b h1 _ e => by omega))
      case done =>
        rintro D ys W9 hD hys ⟨us, vg, L, h⟩ hK
        have hord := back_order t ys hys
        rw [hord] at h
        have hne : ∀ x ∈ L, x.l ≠ [] := fun x hx => by
          have h1 : x.l ∈ L.map Gp.l := List.mem_map_of_mem hx
          rw [h.rows, List.mem_map] at h1
          obtain ⟨u, hu, e⟩ := h1
          rw [← e]; exact sortN_ne (h.gr.ne u hu)
        have hLl : L.length ≤ 100000 := by
          have h1 := congrArg List.length h.rows
          rw [List.length_map, List.length_map] at h1
          have h2 := len_flat us h.gr.ne
          have h3 := h.cnt
          omega
        have ks := sortGv h.gv hne (heads_ne h.gr.nodup h.gr.ne L h.rows) hLl
        have KS := Lib.hid ks; have HH := Lib.hid h; have HKD := Lib.hid hK
        have y0 := h.gb
        have hgB := h.d.2.2.2.1; have hgs := h.size
        clear ks h hK hne hLl
        go_wp2_with (go_at_call 93; refine (KS.out).mono ?_; rintro e w10 ⟨rfl, h10, hg10⟩; refine Hid.out ?_)
        have hbg : But (fun b => vg.ownBlock = some b) W9 w10 := But.of_grown hg10 (fun _ e => e)
        have c10 := (hbg.cell (p := ⟨w5.heap.size + 1, 0, none⟩) (by dsimp only; omega) (fun e => by have := (HH.out.gv.lt e).1; dsimp only at this; omega)).trans y0
        have hK10 : w10.heap[D]? = some (.deferred (some [])) := by
          have hDl := (Array.getElem?_eq_some_iff.1 HKD.out).1
          rw [hbg.block D hDl (fun e => by
            obtain ⟨o, ho, hc⟩ := own_cells HH.out.gv.own e
            rw [HKD.out] at ho; cases ho; cases hc)]
          exact HKD.out
        have hbw : Below w.heap.size w w10 := HH.out.below.trans ⟨hbg.os, hbg.tape, hbg.output, hbg.size, fun k hk => hbg.block k (by have := HH.out.below.size; omega) (fun e => by have := (HH.out.gv.lt e).1; omega)⟩
        have H10 := Lib.hid h10; have HK10 := Lib.hid hK10; have HBW := Lib.hid hbw
        clear hbg h10 hg10 hK10 hbw y0
        refine Lib.hid ?_
        go_wp2
        refine ⟨by simp, .inl ⟨_, _, rfl, run_takeDeferred HK10.out, ?_⟩⟩
        refine ⟨_, by first | (simp [results, Try.results71, go_sem]; done) | (simp [results, Try.results71, go_sem]; rfl), t, us, vg, L, rfl, HVF.out, HH.out.gr, HH.out.rows, (H10.out.turn (grownBy_putObj' w10 D _) (fun r e => by cases e; exact ⟨_, HK10.out, rfl⟩)).mono (by have := HH.out.below.size; omega), HBW.out.trans (belowK_b (w := w) (Nat.le_refl _) w10 D _ _ (by omega) HK10.out rfl rfl)⟩
      case stop =>
        rintro D c pre W4 _ _ h _
        exact h.elim
end Go.Proofs.Ytjjkabgbcflipaa
