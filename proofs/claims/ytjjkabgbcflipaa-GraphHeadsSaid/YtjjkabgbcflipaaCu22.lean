import Derived.Test.YtjjkabgbcflipaaCu21
set_option linter.unusedSimpArgs false
set_option linter.unusedVariables false
namespace Go.Proofs.Ytjjkabgbcflipaa
open Go Go.Proofs Go.RowKit Go.Shelf GM

attribute [local go_sem] Oper.semAt_some

/-- What a range over a function leaves among the deferred calls. -/
def mkD (D : Nat) : Deferred := { target := .collected D, args := #[] }
structure Marks (B : Nat) (W : World) (Ds : List Nat) : Prop where
  nd : Ds.Nodup
  at_ : ∀ D ∈ Ds, B ≤ D ∧ W.heap[D]? = some (.deferred (some []))
theorem Marks.nil (B : Nat) (W : World) : Marks B W [] := ⟨List.nodup_nil, fun _ h => by simp at h⟩
theorem Marks.cons {B : Nat} {W W' : World} {Ds : List Nat} (h : Marks B W Ds) (hb : Below W.heap.size W W') {D : Nat} (hD : W.heap.size ≤ D) (hB : B ≤ W.heap.size) (hk : W'.heap[D]? = some (.deferred (some []))) : Marks B W' (D :: Ds) := by
  have hlt : ∀ E ∈ Ds, E < W.heap.size := fun E hE => (Array.getElem?_eq_some_iff.1 (h.at_ E hE).2).1
  refine ⟨List.nodup_cons.2 ⟨fun hm => by have := hlt D hm; omega, h.nd⟩, fun E hE => ?_⟩
  rcases List.mem_cons.1 hE with rfl | hE
  · exact ⟨by omega, hk⟩
  · exact ⟨(h.at_ E hE).1, (hb.block E (hlt E hE)).trans (h.at_ E hE).2⟩
theorem Marks.keep {B : Nat} {W W' : World} {Ds : List Nat} (h : Marks B W Ds) (hb : Below W.heap.size W W') : Marks B W' Ds :=
  ⟨h.nd, fun E hE => ⟨(h.at_ E hE).1, (hb.block E (Array.getElem?_eq_some_iff.1 (h.at_ E hE).2).1).trans (h.at_ E hE).2⟩⟩
theorem leaves_marks {F : Fence} {n : Nat} {fn : Func} {tmps : Array Value} {R : Ending → World → Prop} {B : Nat} : ∀ (Ds : List Nat) (W : World), Marks B W Ds → B ≤ W.heap.size → (∀ W', Below B W W' → LeavesIn F n Try.prog fn tmps R [] .returning W') →
    LeavesInM F n Try.prog fn tmps R (Ds.map mkD) .returning W
  | [], W, _, _, h => h W (Below.refl _ _)
  | D :: Ds, W, hm, hB, h => by
    obtain ⟨hD, hk⟩ := hm.at_ D (List.mem_cons_self ..)
    have hlt := (Array.getElem?_eq_some_iff.1 hk).1
    have hb : Below B W (W.putObj D (.deferred none)) := (Below.refl _ _).grown (grownBy_putObj' W D _) hB (fun k e => by cases e; exact hD)
    refine ⟨by simp, .inl ⟨D, W.putObj D (.deferred none), rfl, run_takeDeferred hk, leaves_marks Ds _ ⟨(List.nodup_cons.1 hm.nd).2, fun E hE => ⟨(hm.at_ E (List.mem_cons_of_mem _ hE)).1, ?_⟩⟩ (Nat.le_trans hB hb.size) (fun W' h' => h W' (hb.trans h'))⟩⟩
    rw [World.putObj_heap_other (fun e => (List.nodup_cons.1 hm.nd).1 (by first | rwa [e] at hE | rwa [← e] at hE))]
    exact (hm.at_ E (List.mem_cons_of_mem _ hE)).2
def okN (N : Nat → Int) (g : List Nat) (q : Nat) : Bool := g.contains q || decide (0 ≤ N q)
def freeG (nx : Nat → List Nat) (N : Nat → Int) (g : List Nat) : Bool := decide (N (g.head?.getD 0) < 0) && (g.flatMap nx).all (okN N g)
def freeV (nx : Nat → List Nat) (N : Nat → Int) (L : List Gp) : Value := match L.find? fun x => freeG nx N x.l with | some x => x.v | none => nilS
def FJ (WR : World) (N : Nat → Int) (g : List Nat) {P : Nat} (pre : List (Fin P)) (W : World) : Prop := Below WR.heap.size WR W ∧ ∀ q ∈ vals pre, okN N g q = true
def FX (WR : World) (N : Nat → Int) (g : List Nat) {P : Nat} (c : Code) (pre : List (Fin P)) (W : World) : Prop := c = .exit 1 ∧ Below WR.heap.size WR W ∧ ∃ q ∈ vals pre, okN N g q = false
theorem FJ.own {WR : World} {N : Nat → Int} {g : List Nat} {P : Nat} : OwnFrom WR.heap.size (FJ WR N g (P := P)) := fun s X Y row h hg hr => ⟨h.1.grown hg h.1.size (fun k e => (hr k e).1), h.2⟩
theorem FX.own {WR : World} {N : Nat → Int} {g : List Nat} {P : Nat} (c : Code) : OwnFrom WR.heap.size (FX WR N g (P := P) c) := fun s X Y row h hg hr => ⟨h.1, h.2.1.grown hg h.2.1.size (fun k e => (hr k e).1), h.2.2⟩
theorem freeV_at {nx : Nat → List Nat} {N : Nat → Int} {L : List Gp} {i : Nat} {x : Gp} (h : L.take (i + 1) = L.take i ++ [x]) (hf : ∀ y ∈ L.take i, freeG nx N y.l = false) (hx : freeG nx N x.l = true) : freeV nx N L = x.v := by
  have h1 : L = (L.take i ++ [x]) ++ L.drop (i + 1) := by rw [← h, List.take_append_drop]
  have h2 : L.find? (fun x => freeG nx N x.l) = some x := by
    rw [h1, List.find?_append, List.find?_append, List.find?_eq_none.2 (fun y hy => by rw [hf y hy]; simp)]
    simp [hx]
  unfold freeV; rw [h2]
theorem freeV_no {nx : Nat → List Nat} {N : Nat → Int} {L : List Gp} (hf : ∀ y ∈ L, freeG nx N y.l = false) : freeV nx N L = nilS := by
  unfold freeV; rw [List.find?_eq_none.2 (fun y hy => by rw [hf y hy]; simp)]
theorem head_at (l : List Nat) : l.head?.getD 0 = atD l 0 := by cases l <;> rfl
theorem freeG_no {nx : Nat → List Nat} {N : Nat → Int} {l : List Nat} (h : 0 ≤ N (atD l 0)) : freeG nx N l = false := by
  unfold freeG; rw [head_at, decide_eq_false (by omega)]; rfl
theorem freeG_bad {nx : Nat → List Nat} {N : Nat → Int} {l : List Nat} {q : Nat} (hq : q ∈ l.flatMap nx) (h : okN N l q = false) : freeG nx N l = false := by
  unfold freeG
  rw [show (l.flatMap nx).all (okN N l) = false from List.all_eq_false.2 ⟨q, hq, by rw [h]; simp⟩, Bool.and_false]
theorem freeG_yes {nx : Nat → List Nat} {N : Nat → Int} {l : List Nat} (h : ¬ 0 ≤ N (atD l 0)) (hq : ∀ q ∈ l.flatMap nx, okN N l q = true) : freeG nx N l = true := by
  unfold freeG; rw [head_at, decide_eq_true (by omega), List.all_eq_true.2 hq]; rfl
theorem keeps_drewN (B : Nat) (W : World) (q : Nat) : KeepsFrom B W (W.drewN q) := ⟨Nat.le_refl _, fun _ _ _ h _ => h⟩
theorem ka_drewN (A : Nat → Prop) (W : World) (q : Nat) : KA A W (W.drewN q) := ⟨Nat.le_refl _, fun _ _ _ => rfl⟩
theorem bs_any (xb xf xc : Nat) (xl : List Nat) (x : Nat) (W : World) (hc : ∀ k, k < xl.length → W.cell? ⟨xb, xf + k, none⟩ = some (.int .i64 (atD xl k : Nat))) (hs : xl.Pairwise (· ≤ ·)) (hl : xl.length ≤ 100000) :
    Calls Try.prog 97 #[.slice (some ⟨xb, xf, none⟩) xl.length xc, .int .i64 (x : Int)] W fun e w' => ∃ k q : Nat, e = .returned (.tuple #[.int .i64 (k : Int), .bool (xl.contains x)]) ∧ w' = W.drewN q := by
  have h := Try.slices_BinarySearch_int xb xf xl.length xc (xl.map fun (n : Nat) => (n : Int)) (x : Int) W (by simp) (by omega) (fun j hj => by
      rw [List.length_map] at hj
      rw [hc j hj]
      simp [hj, atD]) (by
      rw [List.take_of_length_le (by simp)]
      exact List.pairwise_map.2 (hs.imp (fun h => by omega)))
  have hcon : (xl.map fun (n : Nat) => (n : Int)).contains (x : Int) = xl.contains x := by
    rw [Bool.eq_iff_iff]
    simp only [List.contains_iff_mem, List.mem_map]
    exact ⟨fun ⟨a, ha, e⟩ => by rwa [show a = x by omega] at ha, fun h => ⟨x, h, rfl⟩⟩
  rw [List.take_of_length_le (by simp), hcon] at h
  refine h.mono ?_
  rintro e w' ⟨rfl, q, rfl⟩
  exact ⟨_, q, rfl, rfl⟩
set_option maxRecDepth 100000 in
set_option maxHeartbeats 600000 in
theorem free_any {lo P nb nc : Nat} {es : List Nat} {ls : List (List Nat)} {ve vl gv : Value} {L : List Gp} {N : Nat → Int} (w : World) (hP : P ≤ 512) (hv : VR (fun b => b < w.heap.size) w ve vl P es ls) (hls : ∀ p, (rowD ls p).length ≤ 100000) (hes : es.length ≤ 100000)
    (hg : GvAt lo w gv L) (hL : ∀ x ∈ L, x.l ≠ [] ∧ x.l.Pairwise (· ≤ ·) ∧ (∀ p ∈ x.l, p < P) ∧ x.l.length ≤ 512) (hLl : L.length ≤ 512) (hN : ∀ p, p < P → w.cell? ⟨nb, p, none⟩ = some (.int .i64 (N p))) (hnb : nb < w.heap.size) :
    Calls Try.prog 73 #[.agg #[ve, vl], gv, .slice (some ⟨nb, 0, none⟩) P nc] w fun e w' => e = .returned (freeV (nxt es ls) N L) ∧ Below w.heap.size w w' := by
  obtain ⟨eo, ec, rfl⟩ := hv.ends.slice
  obtain ⟨tb, tc, rfl, -⟩ := hv.tab
  obtain ⟨go, gc, rfl⟩ := hg.slice
  have bA : Below w.heap.size w ((w.alloc (Obj.cells #[.slice eo es.length ec, .slice (some ⟨tb, 0, none⟩) P tc] 89)).alloc (.cells #[.slice (some ⟨nb, 0, none⟩) P nc] 51)) := ((Below.refl _ _).alloc (Nat.le_refl _) _).alloc (by simp) _
  have hz1 : ((w.alloc (Obj.cells #[.slice eo es.length ec, .slice (some ⟨tb, 0, none⟩) P tc] 89)).alloc (.cells #[.slice (some ⟨nb, 0, none⟩) P nc] 51)).heap.size = w.heap.size + 1 + 1 := by simp
  have k0 : ((w.alloc (Obj.cells #[.slice eo es.length ec, .slice (some ⟨tb, 0, none⟩) P tc] 89)).alloc (.cells #[.slice (some ⟨nb, 0, none⟩) P nc] 51)).cell? ⟨w.heap.size, 0, none⟩ = some (.slice eo es.length ec) := by go_cell
  have k1 : ((w.alloc (Obj.cells #[.slice eo es.length ec, .slice (some ⟨tb, 0, none⟩) P tc] 89)).alloc (.cells #[.slice (some ⟨nb, 0, none⟩) P nc] 51)).cell? ⟨w.heap.size, 1, none⟩ = some (.slice (some ⟨tb, 0, none⟩) P tc) := by go_cell
  have k2 : ((w.alloc (Obj.cells #[.slice eo es.length ec, .slice (some ⟨tb, 0, none⟩) P tc] 89)).alloc (.cells #[.slice (some ⟨nb, 0, none⟩) P nc] 51)).cell? ⟨w.heap.size + 1, 0, none⟩ = some (.slice (some ⟨nb, 0, none⟩) P nc) := by go_cell
  have K0 := Lib.hid k0; have K1 := Lib.hid k1; have K2 := Lib.hid k2; have BA := Lib.hid bA; have HZ := Lib.hid hz1; have HV := Lib.hid hv; have HG := Lib.hid hg; have HN := Lib.hid hN
  clear k0 k1 k2 bA hz1 hv hg hN
  refine (callsIn_wide (n := 6)).1 ?_
  refine callsIn_of_wp_marks Try.func73 rfl trivial ?_ rfl
  simp only [Try.ntmps73, List.size_toArray, List.length_cons, List.length_nil, Nat.reduceAdd, Nat.reduceSub, Array.replicate_succ, Array.replicate_zero, List.push_toArray, List.append_toArray, List.nil_append, List.cons_append]
  refine wpIn_wide.2 ?_
  go_wp2_with fail
  go_step3
  go_wp2
  go_step3
  go_wp2_with fail
  generalize ((w.alloc (Obj.cells #[.slice eo es.length ec, .slice (some ⟨tb, 0, none⟩) P tc] 89)).alloc (.cells #[.slice (some ⟨nb, 0, none⟩) P nc] 51)) = W1 at *
  refine (wpIn_wide (n := 6)).1 (wpIn_loop (fun a W => ∃ (i : Nat) (Ds : List Nat) (u8 u9 u10 u11 u14 u15 u16 u17 u18 u19 u20 u21 u22 u23 u24 u25 u26 u27 u28 u29 u30 u31 u32 u33 u34 u35 u36 u37 u38 u39 u40 u41 u42 u43 u44 u45 : Value), a = { tmps := #[(Value.agg #[.slice eo es.length ec, .slice (some ⟨tb, 0, none⟩) P tc]), (Value.slice go L.length gc), (Value.slice (some ⟨nb, 0, none⟩) P nc), (Value.pointer (some ⟨w.heap.size, 0, none⟩)), undef, (Value.pointer (some ⟨w.heap.size + 1, 0, none⟩)), nilS, undef, u8, u9, u10, u11, (Value.slice go L.length gc), (Value.int .i64 (L.length : Int)), u14, u15, u16, u17, u18, u19, u20, u21, u22, u23, u24, u25, u26, u27, u28, u29, u30, u31, u32, u33, u34, u35, u36, u37, u38, u39, u40, u41, u42, u43, u44, u45], defers := Ds.map mkD } ∧ u14 = .int .i64 (i : Int) ∧ i ≤ L.length ∧ Marks W1.heap.size W Ds ∧ Below W1.heap.size W1 W ∧ ∀ x ∈ L.take i, freeG (nxt es ls) N x.l = false) (fun a _ => L.length - (intOf (a.tmps.getD 14 undef)).toNat) ?h0 ?round)
  case h0 => exact ⟨0, [], _, _, _, _, _, _, _, _, _, _, _, _, _, _, _, _, _, _, _, _, _, _, _, _, _, _, _, _, _, _, _, _, _, _, _, _, rfl, rfl, Nat.zero_le _, Marks.nil _ _, Below.refl _ _, fun x hx => by simp at hx⟩
  case round =>
    rintro a W ⟨i, Ds, u8, u9, u10, u11, u14, u15, u16, u17, u18, u19, u20, u21, u22, u23, u24, u25, u26, u27, u28, u29, u30, u31, u32, u33, u34, u35, u36, u37, u38, u39, u40, u41, u42, u43, u44, u45, rfl, rfl, hi, hm, hb, hf⟩
    refine wpIn_wide.2 ?_
    dsimp only
    by_cases hlt : i < L.length
    · have hmem : L[i] ∈ L := List.getElem_mem hlt
      obtain ⟨hne, hso, hpP, hxl⟩ := hL _ hmem
      have ir0 := IR.of_own (A := fun b => b < w.heap.size) (HG.out.pts _ hmem) (fun b e => ((HG.out.pts _ hmem).lt e).2)
      obtain ⟨gb, c3⟩ : ∃ gb, go = some ⟨gb, 0, none⟩ ∧ gb < w.heap.size ∧ w.cell? ⟨gb, i, none⟩ = some (L[i]).v := by
        rcases id HG.out.own.2 with ⟨e, h0⟩ | ⟨g, cap, cur, e, -⟩
        · omega
        · cases e
          refine ⟨g, rfl, (HG.out.lt rfl).2, ?_⟩
          rw [World.ownsRow.cellAt HG.out.own i (by simpa using hlt)]
          simp [gpCells, hlt]
      obtain ⟨rfl, hgb, c3⟩ := c3
      have hfi : L.take (i + 1) = L.take i ++ [L[i]] := by rw [List.take_add_one, List.getElem?_eq_getElem hlt]; rfl
      have HFI := Lib.hid hfi
      clear hfi
      generalize L[i] = x at *
      obtain ⟨xv, xl⟩ := x
      dsimp only at *
      obtain ⟨xo, xc, rfl, hxc⟩ := ir0.get
      obtain ⟨xb, xf, rfl, hxb, c4⟩ := hxc 0 (List.length_pos_iff.2 hne)
      have hxc2 : ∀ k, k < xl.length → w.cell? ⟨xb, xf + k, none⟩ = some (.int .i64 (atD xl k : Nat)) := fun k hk => by
        obtain ⟨b, o, e, -, h⟩ := hxc k hk
        cases e; exact h
      have hh : atD xl 0 < P := hpP _ (atD_mem (List.length_pos_iff.2 hne))
      have c5 := HN.out _ hh
      have bW : Below w.heap.size w W := BA.out.trans (hb.mono (by have := HZ.out; omega))
      have y3 := (bW.cell (p := ⟨gb, i, none⟩) hgb).trans c3
      have y4 := (bW.cell (p := ⟨xb, xf + 0, none⟩) hxb).trans c4
      have y5 := (bW.cell (p := ⟨nb, atD xl 0, none⟩) hnb).trans c5
      have y0 := (hb.cell (p := ⟨w.heap.size, 0, none⟩) (by have := HZ.out; dsimp only; omega)).trans K0.out
      have y1 := (hb.cell (p := ⟨w.heap.size, 1, none⟩) (by have := HZ.out; dsimp only; omega)).trans K1.out
      have y2 := (hb.cell (p := ⟨w.heap.size + 1, 0, none⟩) (by have := HZ.out; dsimp only; omega)).trans K2.out
      rw [Nat.add_zero] at y4
      have hWz := hb.size
      have hz := HZ.out
      have HM := Lib.hid hm; have HB := Lib.hid hb; have HF := Lib.hid hf; have IR0 := Lib.hid ir0; have HXC := Lib.hid hxc2; have BW := Lib.hid bW
      clear hm hb hf ir0 hxc hxc2 bW c3 c4 c5
      go_wp2_with fail
      have bX : Below W.heap.size W (W.alloc (Obj.cells #[Value.slice (some ⟨xb, xf, none⟩) xl.length xc] 51)) := (Below.refl _ _).alloc (Nat.le_refl _) _
      have hz2 : (W.alloc (Obj.cells #[Value.slice (some ⟨xb, xf, none⟩) xl.length xc] 51)).heap.size = W.heap.size + 1 := by simp
      have z8 : (W.alloc (Obj.cells #[Value.slice (some ⟨xb, xf, none⟩) xl.length xc] 51)).cell? ⟨W.heap.size, 0, none⟩ = some (.slice (some ⟨xb, xf, none⟩) xl.length xc) := by go_cell
      have z4 := (bX.cell (p := ⟨xb, xf, none⟩) (by dsimp only; omega)).trans y4
      have z5 := (bX.cell (p := ⟨nb, atD xl 0, none⟩) (by dsimp only; omega)).trans y5
      have z0 := (bX.cell (p := ⟨w.heap.size, 0, none⟩) (by dsimp only; omega)).trans y0
      have z1 := (bX.cell (p := ⟨w.heap.size, 1, none⟩) (by dsimp only; omega)).trans y1
      have z2 := (bX.cell (p := ⟨w.heap.size + 1, 0, none⟩) (by dsimp only; omega)).trans y2
      have hxlp := List.length_pos_iff.2 hne
      have hb2 := HB.out.trans (bX.mono hWz)
      have HB2 := Lib.hid hb2; have HM2 := Lib.hid (HM.out.keep bX); have BW2 := Lib.hid (BW.out.trans (bX.mono (by omega)))
      clear y0 y1 y2 y3 y4 y5 bX hb2 HM HB BW
      generalize (W.alloc (Obj.cells #[Value.slice (some ⟨xb, xf, none⟩) xl.length xc] 51)) = W2 at *
      have hgt : xl.length ≤ 512 := hxl
      by_cases hn : 0 ≤ N (atD xl 0)
      · first | go_quiet (fail) | go_region
        go_wp2_with fail
        refine ⟨⟨i + 1, Ds, _, _, _, _, _, _, _, _, _, _, _, _, _, _, _, _, _, _, _, _, _, _, _, _, _, _, _, _, _, _, _, _, _, _, _, _, rfl, by go_num, hlt, HM2.out.keep (below_drewN (Below.refl _ _) _), below_drewN HB2.out _, fun y hy => ?_⟩, by show L.length - ((i : Int) + 1).toNat < L.length - ((i : Int)).toNat; omega⟩
        rw [HFI.out] at hy
        rcases List.mem_append.1 hy with hy | hy
        · exact HF.out y hy
        · rw [List.mem_singleton.1 hy]; exact freeG_no hn
      · first | go_quiet (fail) | go_region
        have CN := fun W => next_any (.slice eo es.length ec) (.slice (some ⟨tb, 0, none⟩) P tc) (.slice (some ⟨xb, xf, none⟩) xl.length xc) eo (some ⟨tb, 0, none⟩) (some ⟨xb, xf, none⟩) es.length ec P tc xl.length xc W rfl rfl rfl
        have KN := Lib.hid CN
        clear CN
        go_wp2_with (go_at_call 70; refine (KN.out _).mono ?_; rintro e w4 ⟨rfl, rfl⟩; refine Hid.out ?_)
        have bY : Below W2.heap.size W2 (((W2.drewN nq).alloc (Obj.cells #[.slice eo es.length ec, .slice (some ⟨tb, 0, none⟩) P tc] 89)).alloc (Obj.cells #[.slice (some ⟨xb, xf, none⟩) xl.length xc] 51)) := ((below_drewN (Below.refl _ _) nq).alloc (Nat.le_refl _) _).alloc (by simp) _
        have hz4 : (((W2.drewN nq).alloc (Obj.cells #[.slice eo es.length ec, .slice (some ⟨tb, 0, none⟩) P tc] 89)).alloc (Obj.cells #[.slice (some ⟨xb, xf, none⟩) xl.length xc] 51)).heap.size = W.heap.size + 1 + 1 + 1 := by simp [hz2]
        have q0 : (((W2.drewN nq).alloc (Obj.cells #[.slice eo es.length ec, .slice (some ⟨tb, 0, none⟩) P tc] 89)).alloc (Obj.cells #[.slice (some ⟨xb, xf, none⟩) xl.length xc] 51)).cell? ⟨W.heap.size + 1, 0, none⟩ = some (.slice eo es.length ec) := by rw [← hz2]; go_cell
        have q1 : (((W2.drewN nq).alloc (Obj.cells #[.slice eo es.length ec, .slice (some ⟨tb, 0, none⟩) P tc] 89)).alloc (Obj.cells #[.slice (some ⟨xb, xf, none⟩) xl.length xc] 51)).cell? ⟨W.heap.size + 1, 1, none⟩ = some (.slice (some ⟨tb, 0, none⟩) P tc) := by rw [← hz2]; go_cell
        have q2 : (((W2.drewN nq).alloc (Obj.cells #[.slice eo es.length ec, .slice (some ⟨tb, 0, none⟩) P tc] 89)).alloc (Obj.cells #[.slice (some ⟨xb, xf, none⟩) xl.length xc] 51)).cell? ⟨W.heap.size + 1 + 1, 0, none⟩ = some (.slice (some ⟨xb, xf, none⟩) xl.length xc) := by rw [← hz2]; go_cell
        have x8 := (bY.cell (p := ⟨W.heap.size, 0, none⟩) (by dsimp only; omega)).trans z8
        have x2 := (bY.cell (p := ⟨w.heap.size + 1, 0, none⟩) (by dsimp only; omega)).trans z2
        have bw4 : Below w.heap.size w (((W2.drewN nq).alloc (Obj.cells #[.slice eo es.length ec, .slice (some ⟨tb, 0, none⟩) P tc] 89)).alloc (Obj.cells #[.slice (some ⟨xb, xf, none⟩) xl.length xc] 51)) := BW2.out.trans (bY.mono (by omega))
        have HB4 := Lib.hid (HB2.out.trans (bY.mono (by omega)))
        have HM4 := Lib.hid (HM2.out.keep bY)
        have HBW4 := Lib.hid bw4
        have ir4 := IR0.out.keep (B := fun b => b < W.heap.size) (KA.of_below bw4) (fun b h _ => by have h' : b < w.heap.size := h; omega)
        have vr4 := HV.out.keep (B := fun b => b < W.heap.size + 1 + 1 + 1) (KA.of_below bw4) (fun b h _ => by have h' : b < w.heap.size := h; omega)
        clear HB2 HM2 BW2 bY bw4 z8 z0 z1 z2 z4 z5 KN IR0
        generalize (((W2.drewN nq).alloc (Obj.cells #[.slice eo es.length ec, .slice (some ⟨tb, 0, none⟩) P tc] 89)).alloc (Obj.cells #[.slice (some ⟨xb, xf, none⟩) xl.length xc] 51)) = W4 at *
        have hst := next_stops 5 (by omega) (W.heap.size + 1 + 1) (W.heap.size + 1) xl W4 (ir4.keep (B := fun b => b < W.heap.size + 1 + 1 + 1) (KA.refl _ _) (fun b h _ => by have h' : b < W.heap.size := h; omega)) hpP vr4 (by omega) (by omega) hls hes (by omega) (by omega) q2 (by omega) (by omega) q0 q1
        have HC8 := Lib.hid x8; have HC2 := Lib.hid x2
        clear q0 q1 q2 ir4 vr4 x8 x2
        refine Lib.hid ?_
        go_wp2_with fail
        have HZ4 := Lib.hid hz4
        have HWZ := Lib.hid hWz; have HZ1 := Lib.hid hz; have HGT := Lib.hid hgt
        refine (wpIn_wide (n := 6)).1 ?_
        refine wpIn_rangeFunc_ownG rfl (by omega) (gf := 92) (lb := #[.pointer (some ⟨W.heap.size + 1 + 1, 0, none⟩), .pointer (some ⟨W.heap.size + 1, 0, none⟩)]) (by simp [Act.eval]) trivial (enters_of Try.func92 (by kernel_rfl) rfl)
          hst (fun {A B C} h k => h.trans k) ?hKb (Below.refl _ _) (fun _ => rfl) (FJ W4 N xl) (FX W4 N xl) FJ.own FX.own ⟨Below.refl _ _, fun q hq => by simp [vals] at hq⟩ ?a1 ?assign ?body ?done ?stop
        case hKb =>
          intro W5 lp o o' hl _ _ _
          refine ⟨by simp, fun b hb hlt => World.putObj_heap_other ?_⟩
          have hb' : b < W.heap.size + 1 + 1 + 1 := hb
          omega
        case assign =>
          intro lp x W5 K hK
          unfold qEnc
          gi_wp2
          exact hK
        case body =>
          rintro lp pre x W5 ⟨hB5, hok⟩ -
          have bw5 : Below w.heap.size w W5 := HBW4.out.trans (hB5.mono (by omega))
          have KB := bs_any xb xf xc xl x.val W5 (fun k hk => (bw5.cell (p := ⟨xb, xf + k, none⟩) hxb).trans (HXC.out k hk)) hso (by omega)
          have y8 := (hB5.cell (p := ⟨W.heap.size, 0, none⟩) (by dsimp only; omega)).trans HC8.out
          have y2 := (hB5.cell (p := ⟨w.heap.size + 1, 0, none⟩) (by dsimp only; omega)).trans HC2.out
          have y5 := (bw5.cell (p := ⟨nb, x.val, none⟩) hnb).trans (HN.out x.val x.isLt)
          have hxP := x.isLt
          have hmap : vals (pre ++ [x]) = vals pre ++ [x.val] := by simp [vals]
          have HMAP := Lib.hid hmap; have HB5 := Lib.hid hB5; have HOK := Lib.hid hok; have KBB := Lib.hid KB
          clear hmap hB5 hok KB bw5
          cases hc : xl.contains x.val with
          | true =>
            gi_wp2_with fail
            refine ⟨trivial, (CallsIn.inRound lp (callsIn_wide.2 KBB.out)).mono ?_⟩
            rintro e W6 ⟨k, q, rfl, rfl⟩
            rw [hc]
            gi_wp2_with fail
            refine ⟨keeps_drewN _ _ _, ka_drewN _ _ _, below_drewN HB5.out _, fun z hz => ?_⟩
            rw [HMAP.out] at hz
            rcases List.mem_append.1 hz with hz | hz
            · exact HOK.out z hz
            · rw [List.mem_singleton.1 hz]; unfold okN; rw [hc]; rfl
          | false =>
            by_cases hn2 : N x.val < 0
            · gi_wp2_with fail
              refine ⟨trivial, (CallsIn.inRound lp (callsIn_wide.2 KBB.out)).mono ?_⟩
              rintro e W6 ⟨k, q, rfl, rfl⟩
              rw [hc]
              gi_wp2_with fail
              refine ⟨keeps_drewN _ _ _, rfl, below_drewN HB5.out _, x.val, ?_, ?_⟩
              · rw [HMAP.out]; simp
              · unfold okN; rw [hc, decide_eq_false (by omega)]; rfl
            · gi_wp2_with fail
              refine ⟨trivial, (CallsIn.inRound lp (callsIn_wide.2 KBB.out)).mono ?_⟩
              rintro e W6 ⟨k, q, rfl, rfl⟩
              rw [hc]
              gi_wp2_with fail
              refine ⟨keeps_drewN _ _ _, ka_drewN _ _ _, below_drewN HB5.out _, fun z hz => ?_⟩
              rw [HMAP.out] at hz
              rcases List.mem_append.1 hz with hz | hz
              · exact HOK.out z hz
              · rw [List.mem_singleton.1 hz]; unfold okN; rw [decide_eq_true (by omega), Bool.or_true]
        case done =>
          rintro D ys W6 hD hys ⟨hB6, hok⟩ hK
          have y8 := (hB6.cell (p := ⟨W.heap.size, 0, none⟩) (by dsimp only; omega)).trans HC8.out
          have hle : W1.heap.size ≤ W4.heap.size := HB4.out.size
          have hmk := HM4.out.cons hB6 hD hle hK
          have hfr : freeV (nxt es ls) N L = .slice (some ⟨xb, xf, none⟩) xl.length xc := freeV_at HFI.out HF.out (freeG_yes (by show ¬ 0 ≤ N (atD xl 0); omega) (fun z hz => hok z (by rw [hys]; exact hz)))
          have hbw6 : Below w.heap.size w W6 := HBW4.out.trans (hB6.mono (by omega))
          have h16 : W1.heap.size ≤ W6.heap.size := Nat.le_trans hle hB6.size
          have HMK := Lib.hid hmk; have HFR := Lib.hid hfr; have HBW6 := Lib.hid hbw6; have H16 := Lib.hid h16
          clear hmk hfr hbw6 hB6 hok hK h16
          go_wp2_with fail
          refine leaves_marks (D :: Ds) _ HMK.out H16.out (fun W' hb' => ⟨_, by first | (simp [results, Try.results73, go_sem]; done) | (simp [results, Try.results73, go_sem]; rfl), by rw [HFR.out], HBW6.out.trans (hb'.mono (by omega))⟩)
        case stop =>
          rintro D c pre W6 hD hpre ⟨rfl, hB6, q, hq, hbad⟩ hK
          have hle : W1.heap.size ≤ W4.heap.size := HB4.out.size
          have hmk := HM4.out.cons hB6 hD hle hK
          have hbw6 : Below W1.heap.size W1 W6 := HB4.out.trans (hB6.mono (by omega))
          refine wpIn_wide.2 ?_
          go_wp2_with fail
          refine ⟨⟨i + 1, D :: Ds, _, _, _, _, _, _, _, _, _, _, _, _, _, _, _, _, _, _, _, _, _, _, _, _, _, _, _, _, _, _, _, _, _, _, _, _, rfl, by go_num, hlt, hmk, hbw6, fun y hy => ?_⟩, by show L.length - ((i : Int) + 1).toNat < L.length - ((i : Int)).toNat; omega⟩
          rw [HFI.out] at hy
          rcases List.mem_append.1 hy with hy | hy
          · exact HF.out y hy
          · rw [List.mem_singleton.1 hy]; exact freeG_bad (hpre.subset hq) hbad
    · have hiL : i = L.length := by omega
      subst hiL
      have hfr : freeV (nxt es ls) N L = nilS := freeV_no (fun y hy => hf y (by rw [List.take_length]; exact hy))
      have hbw : Below w.heap.size w W := BA.out.trans (hb.mono (by have := HZ.out; omega))
      have h1 := hb.size
      have HMK := Lib.hid hm; have HFR := Lib.hid hfr; have HBW := Lib.hid hbw; have H1 := Lib.hid h1
      have HZ9 := Lib.hid HZ.out
      clear hm hfr hbw hf hb h1
      go_wp2_with fail
      refine leaves_marks Ds _ HMK.out H1.out (fun W' hb' => ⟨_, by first | (simp [results, Try.results73, go_sem]; done) | (simp [results, Try.results73, go_sem]; rfl), by rw [HFR.out], HBW.out.trans (hb'.mono (by have := HZ9.out; omega))⟩)
end Go.Proofs.Ytjjkabgbcflipaa
