import Derived.Test.YtjjkabgbcflipaaCu9
set_option linter.unusedSimpArgs false
set_option linter.unusedVariables false
namespace Go.Proofs.Ytjjkabgbcflipaa
open Go Go.Proofs Go.RowKit Go.Shelf GM

attribute [local go_sem] Oper.semAt_some

/-- A row of numbers that is written in place. -/
structure NmAt (W : World) (g P : Nat) (f : Nat → Int) : Prop where
  nc : ∀ k, k < P → W.cell? ⟨g, k, none⟩ = some (.int .i64 (f k))
  nf : ∀ k, W.frozen? ⟨g, k, none⟩ = false
  lt : g < W.heap.size
section
variable {S : Nat → Prop} {W W' : World} {g P : Nat} {f : Nat → Int}
theorem NmAt.but (h : NmAt W g P f) (hb : But S W W') (hn : ¬ S g) : NmAt W' g P f :=
  ⟨fun k hk => (hb.cell (p := ⟨g, k, none⟩) h.lt hn).trans (h.nc k hk), fun k => (hb.frozen (p := ⟨g, k, none⟩) h.lt hn).trans (h.nf k), Nat.lt_of_lt_of_le h.lt hb.size⟩
theorem NmAt.below (h : NmAt W g P f) (hb : Below W.heap.size W W') : NmAt W' g P f := h.but (S := fun _ => False) (But.of_below hb) id
theorem NmAt.set (h : NmAt W g P f) (k : Nat) (z : Int) (hk : k < P) {f' : Nat → Int} (hf : ∀ j, j < P → f' j = if j = k then z else f j) : NmAt (W.setCell ⟨g, k, none⟩ (.int .i64 z)) g P f' := by
  refine ⟨fun j hj => ?_, fun j => by rw [World.frozen?_setCell]; exact h.nf j, by simpa using h.lt⟩
  rw [hf j hj]
  by_cases e : j = k
  · subst e; rw [if_pos rfl]; exact cellSet (h.nc j hj) _
  · rw [if_neg e, World.cell?_setCell_other (h := by intro q; cases q; exact e rfl)]; exact h.nc j hj
theorem NmAt.of_C2 {B : Nat} {z : Int} {n c : Nat} (h : C2 B P z W (.slice (some ⟨g, 0, none⟩) n c)) : NmAt W g P (fun _ => z) := by
  obtain ⟨b, e, -, hb⟩ := h
  have e2 : g = b := by cases e; rfl
  subst e2
  refine ⟨fun k hk => ?_, fun k => frozen_of_row _ _ k _ _ hb, (Array.getElem?_eq_some_iff.1 hb).1⟩
  rw [cell_of_row _ _ k _ _ (0, 0) hb]
  simp [intCells, hk]
end
/-- The ranks of the first j points of an order. -/
def rkF (t : List Nat) (j : Nat) (q : Nat) : Int := if q ∈ t.take j then ((t.idxOf q : Nat) : Int) else -1
theorem rkF_zero (t : List Nat) (q : Nat) : rkF t 0 q = -1 := by simp [rkF]
theorem rkF_succ {t : List Nat} (ht : t.Nodup) {j : Nat} (hj : j < t.length) (q : Nat) : rkF t (j + 1) q = if q = atD t j then (j : Int) else rkF t j q := by
  unfold rkF
  rw [atD_take hj]
  simp only [List.mem_append, List.mem_singleton]
  have hi : t.idxOf (atD t j) = j := by
    have h1 : atD t j = t[j] := by have := atD_get hj; rw [List.getElem?_eq_getElem hj] at this; exact (Option.some.inj this).symm
    rw [h1]; exact List.Nodup.idxOf_getElem ht j hj
  by_cases e : q = atD t j
  · rw [if_pos (Or.inr e), if_pos e, e, hi]
  · rw [if_neg e]
    by_cases m : q ∈ t.take j
    · rw [if_pos (Or.inl m), if_pos m]
    · rw [if_neg (fun h => h.elim m e), if_neg m]
/-- The parent of a point: the first of these points without which it is not reached. -/
def parF (t : List Nat) (T : Nat → List Nat) (s : List Nat) (q : Nat) : Int := if q ∈ t then (match s.find? (fun p => !(q == p || (T p).contains q)) with | some p => (p : Int) | none => -1) else -1
theorem parF_nil (t : List Nat) (T : Nat → List Nat) (q : Nat) : parF t T [] q = -1 := by unfold parF; split <;> rfl
theorem parF_cons (t : List Nat) (T : Nat → List Nat) (p : Nat) (s : List Nat) (q : Nat) : parF t T (p :: s) q = if q ∈ t ∧ ¬ (q = p ∨ q ∈ T p) then (p : Int) else parF t T s q := by
  unfold parF
  by_cases h : q ∈ t
  · rw [if_pos h, if_pos h, List.find?_cons]
    by_cases e : q = p ∨ q ∈ T p
    · have : (!(q == p || (T p).contains q)) = false := by
        rcases e with e | e
        · simp [e]
        · simp [e]
      rw [this, if_neg (fun x => x.2 e)]
    · have : (!(q == p || (T p).contains q)) = true := by
        simp only [not_or] at e
        simp [e.1, e.2]
      rw [this, if_pos ⟨h, e⟩]
  · rw [if_neg h, if_neg h, if_neg (fun x => h x.1)]
theorem parF_congr {t : List Nat} {T U : Nat → List Nat} {s : List Nat} (h : ∀ p ∈ s, T p = U p) (q : Nat) : parF t T s q = parF t U s q := by
  induction s with
  | nil => rw [parF_nil, parF_nil]
  | cons p s ih =>
    rw [parF_cons, parF_cons, h p (List.mem_cons_self ..), ih (fun x hx => h x (List.mem_cons_of_mem _ hx))]
theorem VL.bound {nx : Nat → List Nat} {B : Nat → Prop} {qs t : List Nat} (h : VL nx B qs t) (P : Nat) (hq : ∀ q ∈ qs, q < P) (hn : ∀ q, q < P → ∀ x ∈ nx q, x < P) : ∀ x ∈ t, x < P := by
  induction h with
  | nil => simp
  | old _ _ ih => exact ih (fun q hm => hq q (List.mem_cons_of_mem _ hm))
  | @new B q qs t u hb _ _ ih1 ih2 =>
    intro x hx
    have hqP := hq q (List.mem_cons_self ..)
    rcases List.mem_append.1 hx with hx | hx
    · exact ih1 (hn q hqP) x hx
    · rcases List.mem_cons.1 hx with rfl | hx
      · exact hqP
      · exact ih2 (fun q hm => hq q (List.mem_cons_of_mem _ hm)) x hx
/-- What an order and the visits without its points are. -/
structure DomT (nx : Nat → List Nat) (r P : Nat) (t : List Nat) (T : Nat → List Nat) : Prop where
  ord : VL nx (fun _ => False) [r] t
  wo : ∀ p ∈ t, VL nx (fun x => x = p) [r] (T p)
  lt : ∀ x ∈ t, x < P
  len : t.length ≤ P
def bEnc {t : List Nat} (x : Fin t.length) : Array Value := #[.int .i64 ((x.val : Nat) : Int), .int .i64 ((atD t x.val : Nat) : Int)]
set_option maxRecDepth 100000 in
set_option maxHeartbeats 4000000 in
theorem backw_in {A : Nat → Prop} {t : List Nat} {tv : Value} (n : Nat) (hn : 1 ≤ n) (lp PB : Nat) (J Jx : List (Fin t.length) → World → Prop) (W : World)
    (hY : ∀ pre x W, J pre W → pre.length < t.length → YieldAt Fence.wide (n - 1) Try.prog lp (bEnc x) W fun e W' =>
      (e = .returned (.bool true) ∧ J (pre ++ [x]) W' ∧ KA A W W') ∨ (e = .returned (.bool false) ∧ Jx (pre ++ [x]) W'))
    (hp : IR A W tv t) (hps : t.length ≤ 100000) (ha1 : A PB) (hl1 : PB < W.heap.size) (hc1 : W.cell? ⟨PB, 0, none⟩ = some tv) (h0 : J [] W) :
    CallsIn Fence.wide n Try.prog 98 #[.func (.yield lp) #[] #[], .pointer (some ⟨PB, 0, none⟩)] W fun e W' => (∃ v, e = .returned v) ∧
      ((∃ ys, ys.map (fun x => x.val) = (List.range t.length).reverse ∧ J ys W') ∨ (∃ pre, pre.map (fun x => x.val) <+: (List.range t.length).reverse ∧ Jx pre W')) := by
  have hgP : ∀ V, KA A W V → ∀ i, i < t.length → ∃ b o c, tv = .slice (some ⟨b, o, none⟩) t.length c ∧ V.cell? ⟨b, o + i, none⟩ = some (.int .i64 (atD t i : Nat)) := fun V hV i hi => (hp.keep hV (fun _ h _ => h)).at i hi
  have hgB : ∀ V, KA A W V → V.cell? ⟨PB, 0, none⟩ = some tv := fun V hV => (hV.cell (p := ⟨PB, 0, none⟩) ha1 hl1).trans hc1
  obtain ⟨po, pc, rfl⟩ := hp.slice
  have KY := Lib.hid hY; have GP := Lib.hid hgP; have GB := Lib.hid hgB
  clear hY hgP hgB hp ha1 hl1
  refine callsIn_of_wp Try.func98 rfl trivial ?_ rfl
  simp only [Try.ntmps98, List.size_toArray, List.length_cons, List.length_nil, Nat.reduceAdd, Nat.reduceSub, Array.replicate_succ, Array.replicate_zero, List.push_toArray, List.append_toArray, List.nil_append, List.cons_append]
  gi_wp2
  clear hc1
  gi_loopw [3] (fun p wr => ∃ (i : Nat) (pre : List (Fin t.length)), i ≤ t.length ∧ p = .int .i64 ((i : Int) - 1) ∧ pre.map (fun x => x.val) = ((List.range t.length).reverse).take (t.length - i) ∧ J pre wr ∧ KA A W wr) (fun p _ => (intOf p + 1).toNat)
  case atStart => exact ⟨t.length, [], Nat.le_refl _, by go_num, by simp, h0, KA.refl _ _⟩
  case round =>
    obtain ⟨i, pre, hi, rfl, hpr, hJ, hk⟩ := hrel
    have HPR := Lib.hid hpr; clear hpr
    by_cases hz : i = 0
    · subst hz
      have hv2 : Hid (pre.map (fun x => x.val) = (List.range t.length).reverse) := Lib.hid (by rw [HPR.out, Nat.sub_zero]; exact List.take_of_length_le (by simp))
      gi_wp2
      go_end0
      exact ⟨⟨_, rfl⟩, .inl ⟨pre, hv2.out, hJ⟩⟩
    · obtain ⟨j, rfl⟩ : ∃ j, i = j + 1 := ⟨i - 1, by omega⟩
      have hj : j < t.length := by omega
      obtain ⟨b, off, c, hpe, hc⟩ := GP.out wr hk j hj
      cases hpe
      have y0 := GB.out wr hk
      have htk : ((List.range t.length).reverse).take (t.length - j) = ((List.range t.length).reverse).take (t.length - (j + 1)) ++ [j] := by
        rw [show t.length - j = (t.length - (j + 1)) + 1 by omega, List.take_add_one]
        congr 1
        rw [List.getElem?_eq_getElem (by simp; omega)]
        simp
        omega
      have hlen : pre.length < t.length := by
        have := congrArg List.length HPR.out
        simp at this
        omega
      obtain ⟨fn, tmps, assign, body, hy, hR⟩ := KY.out pre ⟨j, hj⟩ wr hJ hlen
      have HR := Lib.hid hR; have HTK := Lib.hid htk; have HK := Lib.hid hk; have HJ := Lib.hid hJ
      clear hR htk hk hJ hlen
      have e0 : (0 : Int) ≤ (j : Int) := by omega
      have e1 : (j : Int) < (t.length : Int) := by omega
      have e2 : (((j + 1 : Nat) : Int) - 1) = (j : Int) := by omega
      rw [e2]
      unfold bEnc at hy
      gi_wp2
      refine HR.out.mono ?_
      rintro e W3 (⟨rfl, hJ3, hk3⟩ | ⟨rfl, hJx3⟩)
      · have HK4 := Lib.hid (HK.out.trans hk3)
        clear hk3
        gi_wp2
        go_roundw
        case rel => exact ⟨j, pre ++ [⟨j, hj⟩], by omega, by go_num, by rw [HTK.out, ← HPR.out, List.map_append]; rfl, hJ3, HK4.out⟩
        case measure => first | (simp [intOf]; done) | (simp [intOf]; omega)
      · gi_wp2
        refine bodyPost_ret (results_none rfl _ _ _) rfl ?_
        refine ⟨⟨_, rfl⟩, .inr ⟨pre ++ [⟨j, hj⟩], ?_, hJx3⟩⟩
        rw [List.map_append, HPR.out]
        have := HTK.out
        show List.take (t.length - (j + 1)) (List.range t.length).reverse ++ [j] <+: _
        rw [← this]; exact List.take_prefix _ _
theorem backw_any (ao : Option Addr) (n c : Nat) (w : World) :
    Calls Try.prog 75 #[.slice ao n c] w fun e w' => e = .returned (.func (.func 98) #[] #[.pointer (some ⟨w.heap.size, 0, none⟩)]) ∧ w' = w.alloc (.cells #[.slice ao n c] 51) := by
  go_enter Try.func75, Try.ntmps75
  go_wp2
  go_ret
  exact ⟨rfl, rfl⟩
theorem backw_stops {A : Nat → Prop} {t : List Nat} {tv : Value} (n : Nat) (hn : 1 ≤ n) (PB : Nat) (w : World)
    (hp : IR A w tv t) (hps : t.length ≤ 100000) (ha1 : A PB) (hl1 : PB < w.heap.size) (hc1 : w.cell? ⟨PB, 0, none⟩ = some tv) :
    SeqStopsK Fence.wide n Try.prog 98 #[.pointer (some ⟨PB, 0, none⟩)] (bEnc (t := t)) (KA A) (fun ys => ys.map (fun x => x.val) = (List.range t.length).reverse) (fun pre => pre.map (fun x => x.val) <+: (List.range t.length).reverse) t.length w := fun lp J Jx W hW _ _ hY h0 =>
  backw_in n hn lp PB J Jx W hY (hp.keep (KA.of_below hW) (fun _ h _ => h)) hps ha1 (Nat.lt_of_lt_of_le hl1 hW.size) ((hW.cell (p := ⟨PB, 0, none⟩) hl1).trans hc1) h0
end Go.Proofs.Ytjjkabgbcflipaa
namespace Go.Proofs.Ytjjkabgbcflipaa
open Go Go.Proofs Go.RowKit Go.Shelf GM

attribute [local go_sem] Oper.semAt_some

theorem _root_.Go.Proofs.GM.VL.det {nx : Nat → List Nat} {B : Nat → Prop} {qs t : List Nat} (h : VL nx B qs t) : ∀ u, VL nx B qs u → t = u := by
  induction h with
  | nil => intro u k; cases k; rfl
  | old hq _ ih =>
    intro u k
    cases k with
    | old _ k => exact ih _ k
    | new hn _ _ => exact absurd hq hn
  | new hn _ _ ih1 ih2 =>
    intro u k
    cases k with
    | old hq _ => exact absurd hq hn
    | new _ k1 k2 =>
      obtain rfl := ih1 _ k1
      rw [ih2 _ k2]
theorem isCells_of_cell {W : World} {p : Addr} {v : Value} (h : W.cell? p = some v) {o : Obj} (ho : W.heap[p.block]? = some o) : o.isCells = true := by
  unfold World.cell? at h
  rw [ho] at h
  cases o <;> first | rfl | (simp at h)
theorem MkAt.set {W : World} {M P k : Nat} {mk : Nat → Bool} (h : MkAt W M P mk) (hk : k < P) : MkAt (W.setCell ⟨M, k, none⟩ (.bool true)) M P (setB mk k) := by
  refine ⟨fun j hj => ?_, fun j => by rw [World.frozen?_setCell]; exact h.mf j, by simpa using h.lt⟩
  by_cases e : k = j
  · subst e
    rw [cellSet (h.mc k hk)]; simp [setB]
  · rw [World.cell?_setCell_other (h := by intro q; cases q; exact e rfl), h.mc j hj]
    have : (j == k) = false := by rw [beq_eq_false_iff_ne]; exact Ne.symm e
    simp [setB, this]
/-- What stays while the rows of ranks and parents are written. -/
structure DSt (w : World) (Bd P : Nat) (es : List Nat) (ls : List (List Nat)) (ve vl : Value) (r D g h OB : Nat) (tv : Value) (t : List Nat) (W : World) : Prop where
  v0 : W.cell? ⟨w.heap.size, 0, none⟩ = some ve
  v1 : W.cell? ⟨w.heap.size, 1, none⟩ = some vl
  rt : W.cell? ⟨w.heap.size + 1, 0, none⟩ = some (.int .i64 (r : Int))
  r0 : W.cell? ⟨w.heap.size + 1 + 1, 0, none⟩ = some nilS
  r1 : W.cell? ⟨w.heap.size + 1 + 1, 1, none⟩ = some nilS
  rf : ∀ k, W.frozen? ⟨w.heap.size + 1 + 1, k, none⟩ = false
  pp : W.cell? ⟨w.heap.size + 1 + 1 + 1, 0, none⟩ = some (.int .i64 (P : Int))
  d0 : W.cell? ⟨D, 0, none⟩ = some (.slice (some ⟨g, 0, none⟩) P P)
  d1 : W.cell? ⟨D, 1, none⟩ = some (.slice (some ⟨h, 0, none⟩) P P)
  ob : W.cell? ⟨OB, 0, none⟩ = some tv
  ord : IR (fun b => b < Bd ∧ b ≠ g ∧ b ≠ h) W tv t
  view : VR (fun b => b < w.heap.size) W ve vl P es ls
  dD : w.heap.size + 1 + 1 + 1 < D ∧ D < Bd ∧ D ≠ g ∧ D ≠ h
  dO : w.heap.size + 1 + 1 + 1 < OB ∧ OB < Bd ∧ OB ≠ g ∧ OB ≠ h
  dg : w.heap.size + 1 + 1 + 1 < g ∧ g < Bd
  dh : w.heap.size + 1 + 1 + 1 < h ∧ h < Bd ∧ g ≠ h
  bd : Bd ≤ W.heap.size
  bl : Below w.heap.size w W
section
variable {w : World} {Bd P : Nat} {es : List Nat} {ls : List (List Nat)} {ve vl : Value} {r D g h OB : Nat} {tv : Value} {t : List Nat} {W W' : World}
theorem DSt.but {S : Nat → Prop} (q : DSt w Bd P es ls ve vl r D g h OB tv t W) (hb : But S W W') (hS : ∀ b, S b → b = g ∨ b = h ∨ Bd ≤ b) : DSt w Bd P es ls ve vl r D g h OB tv t W' := by
  have h1 := q.dD; have h2 := q.dO; have h3 := q.dg; have h4 := q.dh; have h5 := q.bd
  have ns : ∀ b, b < Bd → b ≠ g → b ≠ h → ¬ S b := fun b l1 l2 l3 e => by
    rcases hS b e with e | e | e
    · exact l2 e
    · exact l3 e
    · omega
  have nw : ∀ b, b ≤ w.heap.size + 1 + 1 + 1 → ¬ S b := fun b l => ns b (by omega) (by omega) (by omega)
  refine ⟨(hb.cell (by dsimp only; omega) (nw _ (by dsimp only; omega))).trans q.v0, (hb.cell (by dsimp only; omega) (nw _ (by dsimp only; omega))).trans q.v1, (hb.cell (by dsimp only; omega) (nw _ (by dsimp only; omega))).trans q.rt, (hb.cell (by dsimp only; omega) (nw _ (by dsimp only; omega))).trans q.r0, (hb.cell (by dsimp only; omega) (nw _ (by dsimp only; omega))).trans q.r1, fun k => (hb.frozen (by dsimp only; omega) (nw _ (by dsimp only; omega))).trans (q.rf k), (hb.cell (by dsimp only; omega) (nw _ (by dsimp only; omega))).trans q.pp,
    (hb.cell (by dsimp only; omega) (ns _ (by dsimp only; omega) h1.2.2.1 h1.2.2.2)).trans q.d0, (hb.cell (by dsimp only; omega) (ns _ (by dsimp only; omega) h1.2.2.1 h1.2.2.2)).trans q.d1, (hb.cell (by dsimp only; omega) (ns _ (by dsimp only; omega) h2.2.2.1 h2.2.2.2)).trans q.ob,
    q.ord.keep (KA.of_but hb (fun b hA _ => ns b hA.1 hA.2.1 hA.2.2)) (fun _ h _ => h), q.view.keep (KA.of_but hb (fun b hA _ => nw b (by omega))) (fun _ h _ => h), h1, h2, h3, h4, Nat.le_trans h5 hb.size, q.bl.trans ⟨hb.os, hb.tape, hb.output, hb.size, fun k hk => hb.block k (by omega) (nw k (by omega))⟩⟩
end
/-- What dominance answers. -/
def DomQ (w : World) (P : Nat) (es : List Nat) (ls : List (List Nat)) (r : Nat) : Ending → World → Prop := fun e w' =>
  ∃ g h t T, e = .returned (.agg #[.slice (some ⟨g, 0, none⟩) P P, .slice (some ⟨h, 0, none⟩) P P]) ∧ DomT (nxt es ls) r P t T ∧
    NmAt w' g P (parF t T t) ∧ NmAt w' h P (rkF t t.length) ∧ w.heap.size ≤ g ∧ w.heap.size ≤ h ∧ g ≠ h ∧ Below w.heap.size w w'
/-- What holds between two rounds of the range. -/
def DomJ (w : World) (B Bd P : Nat) (es : List Nat) (ls : List (List Nat)) (ve vl : Value) (r D g h OB : Nat) (tv : Value) (t : List Nat) (pre : List (Fin t.length)) (W : World) : Prop :=
  DSt w Bd P es ls ve vl r D g h OB tv t W ∧ NmAt W h P (rkF t t.length) ∧ ∃ T : Nat → List Nat, (∀ p ∈ (pre.map fun x => atD t x.val).reverse, VL (nxt es ls) (fun x => x = p) [r] (T p)) ∧ NmAt W g P (parF t T (pre.map fun x => atD t x.val).reverse)
theorem DomJ.own {w : World} {B Bd P : Nat} {es : List Nat} {ls : List (List Nat)} {ve vl : Value} {r D g h OB : Nat} {tv : Value} {t : List Nat} (hB : Bd ≤ B) : OwnFrom B (DomJ w B Bd P es ls ve vl r D g h OB tv t) := by
  rintro s X Y row ⟨h1, h2, T, h3, h4⟩ hg hr
  have hb : But (fun b => row = some b) X Y := But.of_grown hg (fun _ e => e)
  have hd := h1.dg; have hd2 := h1.dh
  refine ⟨h1.but hb (fun b e => .inr (.inr (Nat.le_trans hB (hr b e).1))), h2.but hb (fun e => ?_), T, h3, h4.but hb (fun e => ?_)⟩
  · have := (hr h e).1; omega
  · have := (hr g e).1; omega
set_option maxRecDepth 100000 in
set_option maxHeartbeats 8000000 in
theorem dominance_any {P : Nat} {es : List Nat} {ls : List (List Nat)} {ve vl : Value} (w : World) (hP : P ≤ 1000) (hls : ∀ p, (rowD ls p).length ≤ 100000) (hes : es.length ≤ 100000) (r : Nat) (hr : r < P)
    (hv : VR (fun b => b < w.heap.size) w ve vl P es ls) :
    Calls Try.prog 57 #[.agg #[ve, vl], .int .i64 (r : Int)] w (DomQ w P es ls r) := by
  obtain ⟨eo, ec, rfl⟩ := hv.ends.slice
  obtain ⟨tb, tc, rfl, -⟩ := hv.tab
  refine (callsIn_wide (n := 4)).1 ?_
  refine callsIn_of_wp_marks Try.func57 rfl trivial ?_ rfl
  simp only [Try.ntmps57, List.size_toArray, List.length_cons, List.length_nil, Nat.reduceAdd, Nat.reduceSub, Array.replicate_succ, Array.replicate_zero, List.push_toArray, List.append_toArray, List.nil_append, List.cons_append]
  gi_wp2_with fail
  have hsz : ((((w.alloc (Obj.cells #[.slice eo es.length ec, .slice (some ⟨tb, 0, none⟩) P tc] 89)).alloc (Obj.cells #[.int .i64 (r : Int)] 3)).alloc (Obj.cells #[nilS, nilS] 97)).alloc (Obj.cells #[.int .i64 (P : Int)] 3)).heap.size = w.heap.size + 1 + 1 + 1 + 1 := by simp
  have hb : Below w.heap.size w ((((w.alloc (Obj.cells #[.slice eo es.length ec, .slice (some ⟨tb, 0, none⟩) P tc] 89)).alloc (Obj.cells #[.int .i64 (r : Int)] 3)).alloc (Obj.cells #[nilS, nilS] 97)).alloc (Obj.cells #[.int .i64 (P : Int)] 3)) := by go_grown
  have k1 : ((((w.alloc (Obj.cells #[.slice eo es.length ec, .slice (some ⟨tb, 0, none⟩) P tc] 89)).alloc (Obj.cells #[.int .i64 (r : Int)] 3)).alloc (Obj.cells #[nilS, nilS] 97)).alloc (Obj.cells #[.int .i64 (P : Int)] 3)).cell? ⟨w.heap.size, 0, none⟩ = some (.slice eo es.length ec) := by go_cell
  have k2 : ((((w.alloc (Obj.cells #[.slice eo es.length ec, .slice (some ⟨tb, 0, none⟩) P tc] 89)).alloc (Obj.cells #[.int .i64 (r : Int)] 3)).alloc (Obj.cells #[nilS, nilS] 97)).alloc (Obj.cells #[.int .i64 (P : Int)] 3)).cell? ⟨w.heap.size, 1, none⟩ = some (.slice (some ⟨tb, 0, none⟩) P tc) := by go_cell
  have k3 : ((((w.alloc (Obj.cells #[.slice eo es.length ec, .slice (some ⟨tb, 0, none⟩) P tc] 89)).alloc (Obj.cells #[.int .i64 (r : Int)] 3)).alloc (Obj.cells #[nilS, nilS] 97)).alloc (Obj.cells #[.int .i64 (P : Int)] 3)).cell? ⟨w.heap.size + 1, 0, none⟩ = some (.int .i64 (r : Int)) := by go_cell
  have k4 : ((((w.alloc (Obj.cells #[.slice eo es.length ec, .slice (some ⟨tb, 0, none⟩) P tc] 89)).alloc (Obj.cells #[.int .i64 (r : Int)] 3)).alloc (Obj.cells #[nilS, nilS] 97)).alloc (Obj.cells #[.int .i64 (P : Int)] 3)).cell? ⟨w.heap.size + 1 + 1, 0, none⟩ = some nilS := by go_cell
  have k5 : ((((w.alloc (Obj.cells #[.slice eo es.length ec, .slice (some ⟨tb, 0, none⟩) P tc] 89)).alloc (Obj.cells #[.int .i64 (r : Int)] 3)).alloc (Obj.cells #[nilS, nilS] 97)).alloc (Obj.cells #[.int .i64 (P : Int)] 3)).cell? ⟨w.heap.size + 1 + 1, 1, none⟩ = some nilS := by go_cell
  have k6 : ((((w.alloc (Obj.cells #[.slice eo es.length ec, .slice (some ⟨tb, 0, none⟩) P tc] 89)).alloc (Obj.cells #[.int .i64 (r : Int)] 3)).alloc (Obj.cells #[nilS, nilS] 97)).alloc (Obj.cells #[.int .i64 (P : Int)] 3)).cell? ⟨w.heap.size + 1 + 1 + 1, 0, none⟩ = some (.int .i64 (P : Int)) := by go_cell
  have k7 : ∀ k, ((((w.alloc (Obj.cells #[.slice eo es.length ec, .slice (some ⟨tb, 0, none⟩) P tc] 89)).alloc (Obj.cells #[.int .i64 (r : Int)] 3)).alloc (Obj.cells #[nilS, nilS] 97)).alloc (Obj.cells #[.int .i64 (P : Int)] 3)).frozen? ⟨w.heap.size + 1 + 1, k, none⟩ = false := fun k => by go_cell
  generalize ((((w.alloc (Obj.cells #[.slice eo es.length ec, .slice (some ⟨tb, 0, none⟩) P tc] 89)).alloc (Obj.cells #[.int .i64 (r : Int)] 3)).alloc (Obj.cells #[nilS, nilS] 97)).alloc (Obj.cells #[.int .i64 (P : Int)] 3)) = W0 at *
  have hvr := hv.keep (KA.of_below hb) (fun b h _ => (h : b < w.heap.size))
  have HV := Lib.hid hvr
  clear hv hvr
  refine wpIn_wide.2 (dom_region hP W0 (w.heap.size + 1 + 1 + 1) k6 (by omega) _ _ _ _ _ _ _ _ ?_)
  intro u6 u18 u19 u20 u21 u22 u23 u24 w1 hB1 hD hg hh hgh
  obtain ⟨D, hu, hD1, hD2⟩ := hD
  obtain ⟨g, hv, hg1, hg2⟩ := id hg
  obtain ⟨h, hx, hh1, hh2⟩ := id hh
  subst hu hv hx
  have hz1 := hB1.size
  have j1 := (hB1.cell (p := ⟨w.heap.size, 0, none⟩) (by dsimp only; omega)).trans k1
  have j2 := (hB1.cell (p := ⟨w.heap.size, 1, none⟩) (by dsimp only; omega)).trans k2
  have j3 := (hB1.cell (p := ⟨w.heap.size + 1, 0, none⟩) (by dsimp only; omega)).trans k3
  have j4 := (hB1.cell (p := ⟨w.heap.size + 1 + 1, 0, none⟩) (by dsimp only; omega)).trans k4
  have j5 := (hB1.cell (p := ⟨w.heap.size + 1 + 1, 1, none⟩) (by dsimp only; omega)).trans k5
  have j6 := (hB1.cell (p := ⟨w.heap.size + 1 + 1 + 1, 0, none⟩) (by dsimp only; omega)).trans k6
  have j7 : ∀ k, w1.frozen? ⟨w.heap.size + 1 + 1, k, none⟩ = false := fun k => (hB1.frozen (p := ⟨w.heap.size + 1 + 1, k, none⟩) (by dsimp only; omega)).trans (k7 k)
  have HV1 := Lib.hid (HV.out.keep (KA.of_below hB1) (fun b h _ => (by omega : b < w1.heap.size)))
  have hbw1 := hb.trans (hB1.mono (by omega) : Below w.heap.size W0 w1)
  clear k1 k2 k3 k4 k5 k6 k7
  unfold domAct
  gi_wp2_with fail
  refine wpIn_wide.2 (ord_region hP hls hes w1 w.heap.size (w.heap.size + 1) (w.heap.size + 1 + 1 + 1) r hr eo (some ⟨tb, 0, none⟩) es.length ec P tc HV1.out j1 j2 j3 j6 (by omega) (by omega) (by omega) _ _ _ _ _ _ _ _ _ _ _ _ _ _ ?_)
  intro u7 u25 u26 u27 u28 u29 w2 hB2 hO hT
  obtain ⟨OB, hu7, hO1, hO2⟩ := hO
  obtain ⟨t, hVL, hown, htl⟩ := hT
  subst hu7
  have hg3 := NmAt.of_C2 (hg.below hB2)
  have hh3 := NmAt.of_C2 (hh.below hB2)
  have hz2 := hB2.size
  have hgl := hg3.lt; have hhl := hh3.lt
  have hDl := (Array.getElem?_eq_some_iff.1 hD2).1
  have hD3 := (hB2.block D hDl).trans hD2
  have hOl := (Array.getElem?_eq_some_iff.1 hO2).1
  have hgh' : g ≠ h := fun e => hgh (by rw [e])
  have hg1l := (Array.getElem?_eq_some_iff.1 hg2).1
  have hh1l := (Array.getElem?_eq_some_iff.1 hh2).1
  have hDg : D ≠ g := fun e => by rw [e, hg2] at hD2; injection hD2 with q1; injection q1 with _ q2 _; exact absurd q2 (by decide)
  have hDh : D ≠ h := fun e => by rw [e, hh2] at hD2; injection hD2 with q1; injection q1 with _ q2 _; exact absurd q2 (by decide)
  have hS : DSt w w2.heap.size P es ls (.slice eo es.length ec) (.slice (some ⟨tb, 0, none⟩) P tc) r D g h OB u29 t w2 := by
    refine ⟨(hB2.cell (by dsimp only; omega)).trans j1, (hB2.cell (by dsimp only; omega)).trans j2, (hB2.cell (by dsimp only; omega)).trans j3, (hB2.cell (by dsimp only; omega)).trans j4, (hB2.cell (by dsimp only; omega)).trans j5, fun k => (hB2.frozen (by dsimp only; omega)).trans (j7 k), (hB2.cell (by dsimp only; omega)).trans j6,
      by first | (rw [cell_of_row _ _ 0 _ _ (0, 0) hD3]; done) | (rw [cell_of_row _ _ 0 _ _ (0, 0) hD3]; rfl), by first | (rw [cell_of_row _ _ 1 _ _ (0, 0) hD3]; done) | (rw [cell_of_row _ _ 1 _ _ (0, 0) hD3]; rfl), by first | (rw [cell_of_row _ _ 0 _ _ (0, 0) hO2]; done) | (rw [cell_of_row _ _ 0 _ _ (0, 0) hO2]; rfl), IR.of_own hown (fun b e => ⟨(hown.lt e).2, by have := (hown.lt e).1; omega, by have := (hown.lt e).1; omega⟩), ?_, by omega, by omega, by omega, by omega, Nat.le_refl _, hbw1.trans (hB2.mono (by omega))⟩
    exact (HV.out.keep (KA.of_below hB1) (fun _ h _ => h)).keep (KA.of_below hB2) (fun _ h _ => h)
  have hnod := hVL.nodup
  have hbd := VL.bound hVL P (by simpa using hr) (fun q hq x hx => nxt_lt HV.out hq x hx)
  obtain ⟨to_, toc, hto, -, -, -⟩ := hown.slice
  rw [List.length_map] at hto
  subst hto
  have HS := Lib.hid hS; have HG := Lib.hid hg3; have HH := Lib.hid hh3; have HVL := Lib.hid hVL; have HND := Lib.hid hnod; have HBD := Lib.hid hbd
  clear hS hg3 hh3 hVL hnod hbd hown hO2 hD3 hD2 hg2 hh2 j1 j2 j3 j4 j5 j6 j7 hB2 hB1 hbw1 hb HV1 hg hh hgh hO1 hOl hz2 hz1 hg1 hh1 hD1 hDl hDg hDh hgh' hg1l hh1l
  unfold ordAct
  have z0 := HS.out.ob
  gi_wp2_with fail
  clear z0
  gi_loopw [32] (fun iv wr => ∃ j : Nat, j ≤ t.length ∧ iv = .int .i64 (j : Int) ∧ DSt w w2.heap.size P es ls (.slice eo es.length ec) (.slice (some ⟨tb, 0, none⟩) P tc) r D g h OB (.slice to_ t.length toc) t wr ∧ NmAt wr h P (rkF t j) ∧ NmAt wr g P (fun _ => -1)) (fun iv _ => t.length - (intOf iv).toNat)
  case atStart => exact ⟨0, Nat.zero_le _, rfl, HS.out, (funext (rkF_zero t) : rkF t 0 = fun _ => -1) ▸ HH.out, HG.out⟩
  case round =>
    obtain ⟨j, hj, rfl, hS, hH, hG⟩ := hrel
    by_cases hlt : j < t.length
    · obtain ⟨b, off, c, he, hc⟩ := hS.ord.at j hlt
      cases he
      have hx := HBD.out _ (atD_mem hlt)
      have hup := rkF_succ HND.out hlt
      have hp0 : (0 : Int) ≤ (atD t j : Int) := by omega
      have hp1 : (atD t j : Int) < (P : Int) := by omega
      have y0 := hS.d1
      have y1 := hH.nc _ hx
      have y2 := hH.nf (atD t j)
      have HS2 := Lib.hid hS; have HH2 := Lib.hid hH; have HG2 := Lib.hid hG; have HUP := Lib.hid hup
      clear hS hH hG hup
      generalize hgen : atD t j = p at *
      clear hgen
      gi_wp2
      go_roundw
      case rel =>
        have hb : But (fun k => k = h) wr (wr.setCell ⟨h, p, none⟩ (.int .i64 (j : Int))) := (But.refl _ wr).set _ _ (fun _ => rfl)
        have hd := HS2.out.dh
        exact ⟨j + 1, by omega, by go_num, HS2.out.but hb (fun b e => .inr (.inl e)), HH2.out.set p j (by omega) (fun q _ => HUP.out q), HG2.out.but hb hd.2.2⟩
      case measure => simp [intOf]; omega
    · have hjn : j = t.length := by omega
      have hS2 := hS; have hH2 := hH; have hG2 := hG
      rw [hjn] at hH2
      have y0 := hS.ob
      have BW := fun W => backw_any to_ t.length toc W
      have HS2 := Lib.hid hS; have HH2 := Lib.hid hH2; have HG2 := Lib.hid hG; have KB := Lib.hid BW
      clear hS hH hG hS2 hH2 hG2 BW
      gi_wp2_with fail
      refine ⟨trivial, (callsIn_wide.2 (KB.out wr)).mono ?_⟩
      rintro e w' ⟨rfl, rfl⟩
      have bA : Below wr.heap.size wr (wr.alloc (.cells #[.slice to_ t.length toc] 51)) := (Below.refl _ _).alloc (Nat.le_refl _) _
      have cA : (wr.alloc (.cells #[.slice to_ t.length toc] 51)).cell? ⟨wr.heap.size, 0, none⟩ = some (.slice to_ t.length toc) := by go_cell
      have hzA : (wr.alloc (.cells #[.slice to_ t.length toc] 51)).heap.size = wr.heap.size + 1 := by simp
      have HS3 := Lib.hid (HS2.out.but (S := fun _ => False) (But.of_below bA) (fun _ f => f.elim))
      have HH3 := Lib.hid (HH2.out.below bA); have HG3 := Lib.hid (HG2.out.below bA)
      have hbdr := HS2.out.bd
      clear KB HS2 HH2 HG2 bA y0
      generalize wr.alloc (.cells #[.slice to_ t.length toc] 51) = W3 at *
      gi_wp2_with fail
      have hbd3 := HS3.out.bd
      have hdg := HS3.out.dg
      have hdh := HS3.out.dh
      obtain ⟨A, hA⟩ : ∃ A : Nat → Prop, A = fun b => b < W3.heap.size ∧ b ≠ g := ⟨_, rfl⟩
      have hIR : IR A W3 (.slice to_ t.length toc) t := HS3.out.ord.keep (KA.refl _ _) (fun b h1 h2 => by rw [hA]; exact ⟨h2, h1.2.1⟩)
      have hst := backw_stops (A := A) 3 (by omega) wr.heap.size W3 hIR (by omega) (by rw [hA]; exact ⟨by omega, by have := HS3.out.bd; omega⟩) (by omega) cA
      have HA := Lib.hid hA
      clear hA hIR
      refine wpIn_rangeFunc_ownG rfl (by omega) (gf := 98) (lb := #[.pointer (some ⟨wr.heap.size, 0, none⟩)]) (by simp [Act.eval]) trivial (enters_of Try.func98 (by kernel_rfl) rfl)
        hst (fun {A B C} h k => h.trans k) ?hKb (Below.refl _ _) (fun _ => rfl)
        (DomJ w W3.heap.size w2.heap.size P es ls (.slice eo es.length ec) (.slice (some ⟨tb, 0, none⟩) P tc) r D g h OB (.slice to_ t.length toc) t)
        (fun _ _ _ => False)
        (DomJ.own (by omega))
        (fun _ _ _ _ _ hs _ _ => hs)
        ⟨HS3.out, HH3.out, fun _ => [], fun _ h => by (simp at h), by (rw [List.map_nil, List.reverse_nil, (funext (parF_nil t _) : parF t (fun _ => []) [] = fun _ => -1)]; exact HG3.out)⟩
        ?a1 ?assign ?body ?done ?stop
      case hKb =>
        intro W4 lp o o' hl _ _ _
        refine ⟨by simp, fun b hb hlt => World.putObj_heap_other ?_⟩
        rw [HA.out] at hb
        have := hb.1; omega
      case assign =>
        intro lp x W4 K hK
        unfold bEnc
        gi_wp2
        exact hK
      case body =>
        rintro lp pre x W4 ⟨hS, hH, T, hT, hG⟩ hlt
        have hpt := atD_mem x.isLt
        have hx := HBD.out _ hpt
        generalize hgen : atD t x.val = p at *
        have hp0 : (0 : Int) ≤ (p : Int) := by omega
        have hp1 : (p : Int) < (P : Int) := by omega
        have y0 := hS.pp
        have hmk := make_bools W4 P (by omega)
        have hM := MkAt.made W4 P
        have bA : Below W4.heap.size W4 (W4.alloc (.cells (Array.replicate P (.bool false)) 4)) := (Below.refl _ _).alloc (Nat.le_refl _) _
        have hzM : (W4.alloc (.cells (Array.replicate P (.bool false)) 4)).heap.size = W4.heap.size + 1 := by simp
        have y3 := hM.mc p hx; have y4 := hM.mf p
        have hbL : But (fun b => b = W4.heap.size) (W4.alloc (.cells (Array.replicate P (.bool false)) 4)) ((W4.alloc (.cells (Array.replicate P (.bool false)) 4)).setCell ⟨W4.heap.size, p, none⟩ (.bool true)) := (But.refl _ _).set _ _ (fun _ => rfl)
        have hbW : But (fun b => b = W4.heap.size) W4 ((W4.alloc (.cells (Array.replicate P (.bool false)) 4)).setCell ⟨W4.heap.size, p, none⟩ (.bool true)) := (But.of_below (S := fun b => b = W4.heap.size) bA).trans hbL (fun _ _ e => e)
        have hS5 := hS.but hbW (fun b e => by have := hS.bd; omega)
        have hML := hM.set hx
        have hzL : ((W4.alloc (.cells (Array.replicate P (.bool false)) 4)).setCell ⟨W4.heap.size, p, none⟩ (.bool true)).heap.size = W4.heap.size + 1 := by simp
        have z0 := hS5.v0; have z1 := hS5.v1; have z2 := hS5.rt
        have hwb := hS.bd
        have hdg4 := hS.dg
        have KV := visit_any ((W4.alloc (.cells (Array.replicate P (.bool false)) 4)).setCell ⟨W4.heap.size, p, none⟩ (.bool true)) (by omega) hls hes W4.heap.size r (setB (fun _ => false) p) hr (hS5.view.keep (KA.refl _ _) (fun b h1 _ => ⟨by omega, by omega⟩)) hML
        have hEq : ((W4.alloc (.cells (Array.replicate P (.bool false)) 4)).setCell ⟨W4.heap.size, p, none⟩ (.bool true)) = (W4.alloc (.cells ((Array.replicate P (.bool false)).setIfInBounds p (.bool true)) 4)) := by simp [go_sem]
        rw [hEq] at z0 z1 z2 KV hS5 hbW hzL hML
        clear hEq
        have HKV := Lib.hid KV; have HS5 := Lib.hid hS5; have HBW := Lib.hid hbW; have HZL := Lib.hid hzL
        clear hbW hS5 KV hzL
        have HM := Lib.hid hML; clear hML hbL; have HS4 := Lib.hid hS; have HH4 := Lib.hid hH; have HT := Lib.hid hT; have HG4 := Lib.hid hG; have HGEN := Lib.hid hgen; have HBA := Lib.hid bA; have HZM := Lib.hid hzM; have HPT := Lib.hid hpt
        clear hM hS hH hT hG hgen bA hzM hpt
        gi_wp2_with fail
        refine ⟨trivial, (CallsIn.inRound lp (callsIn_wide.2 HKV.out)).mono ?_⟩
        rintro e W6 ⟨u, v', rfl, g1, -, g3, g4, -⟩
        have hS6 := HS5.out.but g4 (fun b e => by omega)
        have hd6 := hS6.dh
        have hnM : g ≠ W4.heap.size ∧ h ≠ W4.heap.size := by omega
        have hG6 := (HG4.out.but HBW.out (by omega)).but g4 (by omega)
        have hH6 := (HH4.out.but HBW.out (by omega)).but g4 (by omega)
        have hbv : But (fun b => b = W4.heap.size) W4 W6 := HBW.out.trans g4 (fun _ _ e => e)
        have hmk2 : ∀ q, unionB (setB (fun _ => false) p) u q = true ↔ (q = p ∨ q ∈ u) := fun q => by rw [unionB_iff, setB_iff]; simp
        obtain ⟨s, hs⟩ : ∃ s, s = (pre.map fun x => atD t x.val).reverse := ⟨_, rfl⟩
        rw [← hs] at hG6
        have HT2 := HT.out
        rw [← hs] at HT2
        have HT3 := Lib.hid HT2
        have HSS := Lib.hid hs; have HS6 := Lib.hid hS6; have HG6 := Lib.hid hG6; have HH6 := Lib.hid hH6; have HBV := Lib.hid hbv; have HMK := Lib.hid hmk2; have G1 := Lib.hid g1; have G3 := Lib.hid g3
        have y5 := hS6.ob
        clear hS6 hG6 hH6 hbv hmk2 hs HT2 HT g1 g3 g4 HS5 HBW HG4 HH4 HM HKV z0 z1 z2 y0 y3 y4 hmk
        obtain ⟨MS, hMS⟩ : ∃ MS, W4.heap.size = MS := ⟨_, rfl⟩
        rw [hMS] at hnM G3
        have HMS := Lib.hid hMS
        gi_wp2_with fail
        clear hMS
        gi_loopw [58] (fun iv wr2 => ∃ j : Nat, j ≤ t.length ∧ iv = .int .i64 (j : Int) ∧ DSt w w2.heap.size P es ls (.slice eo es.length ec) (.slice (some ⟨tb, 0, none⟩) P tc) r D g h OB (.slice to_ t.length toc) t wr2 ∧
          MkAt wr2 MS P (unionB (setB (fun _ => false) p) u) ∧ NmAt wr2 h P (rkF t t.length) ∧ NmAt wr2 g P (fun q => if q ∈ t.take j ∧ ¬ (q = p ∨ q ∈ u) then (p : Int) else parF t T s q) ∧ But (fun b => b = g) W6 wr2) (fun iv _ => t.length - (intOf iv).toNat)
        case atStart => exact ⟨0, Nat.zero_le _, rfl, HS6.out, G3.out, HH6.out, by simpa using HG6.out, But.refl _ _⟩
        case round =>
          obtain ⟨j, hj, rfl, hS, hM, hH, hG, hb⟩ := hrel
          clear y5
          by_cases hlt : j < t.length
          · obtain ⟨b, off, c, he, hc⟩ := hS.ord.at j hlt
            cases he
            have hq := HBD.out _ (atD_mem hlt)
            have htk := atD_take hlt
            have q0 : (0 : Int) ≤ (atD t j : Int) := by omega
            have q1 : (atD t j : Int) < (P : Int) := by omega
            have y3 := hM.mc _ hq
            have y6 := hS.d0
            have y7 := hG.nc _ hq
            have y8 := hG.nf (atD t j)
            have HS7 := Lib.hid hS; have HM7 := Lib.hid hM; have HH7 := Lib.hid hH; have HG7 := Lib.hid hG; have HB7 := Lib.hid hb; have HTK := Lib.hid htk
            clear hS hM hH hG hb htk
            generalize hgq : atD t j = q at *
            clear hgq
            cases hmq : unionB (setB (fun _ => false) p) u q with
            | true =>
              rw [hmq] at y3
              have hm := (HMK.out q).1 hmq
              have HMQ := Lib.hid hm
              clear hmq hm
              gi_wp2
              go_roundw
              case rel => exact ⟨j + 1, by omega, by go_num, HS7.out, HM7.out, HH7.out, ⟨fun k hk => (by
                  rw [HG7.out.nc k hk, HTK.out]
                  by_cases e : k = q
                  · subst e; rw [if_neg (fun x => x.2 HMQ.out), if_neg (fun x => x.2 HMQ.out)]
                  · simp only [List.mem_append, List.mem_singleton, e, or_false]), HG7.out.nf, HG7.out.lt⟩, HB7.out⟩
              case measure => simp [intOf]; omega
            | false =>
              rw [hmq] at y3
              have hm : ¬ (q = p ∨ q ∈ u) := fun x => by rw [(HMK.out q).2 x] at hmq; cases hmq
              have HMQ := Lib.hid hm
              clear hmq hm
              gi_wp2
              go_roundw
              case rel =>
                have hb2 : But (fun b => b = g) wr (wr.setCell ⟨g, q, none⟩ (.int .i64 (p : Int))) := (But.refl _ wr).set _ _ (fun _ => rfl)
                have hqt : q ∈ t.take (j + 1) := by rw [HTK.out]; simp
                refine ⟨j + 1, by omega, by go_num, HS7.out.but hb2 (fun b e => .inl e), HM7.out.but hb2 (Ne.symm hnM.1), HH7.out.but hb2 (Ne.symm hd6.2.2), HG7.out.set q p (by omega) (fun k _ => ?_), HB7.out.trans hb2 (fun _ _ e => e)⟩
                by_cases e : k = q
                · subst e; rw [if_pos rfl, if_pos ⟨hqt, HMQ.out⟩]
                · rw [if_neg e, HTK.out]
                  simp only [List.mem_append, List.mem_singleton, e, or_false]
              case measure => simp [intOf]; omega
          · have hjn : j = t.length := by omega
            have HS7 := Lib.hid hS; have HH7 := Lib.hid hH; have HG7 := Lib.hid hG; have HB7 := Lib.hid hb
            clear hS hM hH hG hb
            gi_wp2
            have hW : But (fun b => b = g) W4 wr := ⟨HB7.out.os.trans HBV.out.os, HB7.out.tape.trans HBV.out.tape, HB7.out.output.trans HBV.out.output, Nat.le_trans HBV.out.size HB7.out.size, fun k hk hn => (HB7.out.block k (Nat.lt_of_lt_of_le hk HBV.out.size) hn).trans (HBV.out.block k hk (by omega))⟩
            have hgc := HG7.out.nc r hr
            refine ⟨⟨hW.size, fun k ob hk ho hc => ?_⟩, ⟨hW.size, fun b hb hl => hW.block b hl (by rw [HA.out] at hb; exact hb.2)⟩, HS7.out, HH7.out, fun y => if y = p then u else T y, ?_, ?_⟩
            · have hkl := (Array.getElem?_eq_some_iff.1 ho).1
              rw [hW.block k hkl (by omega)]; exact ho
            · rw [List.map_append, List.reverse_append, ← HSS.out]
              intro y hy
              show VL _ _ _ (if y = p then u else T y)
              by_cases e : y = p
              · subst e
                rw [if_pos rfl]
                exact G1.out.congr (fun z => by rw [setB_iff]; simp)
              · rw [if_neg e]
                refine HT3.out y ?_
                have : y ∈ [atD t x.val] ∨ y ∈ s := by simpa using hy
                rcases this with h1 | h1
                · exact absurd ((List.mem_singleton.1 h1).trans HGEN.out) e
                · exact h1
            · rw [List.map_append, List.reverse_append, ← HSS.out]
              refine ⟨fun k hk => ?_, HG7.out.nf, HG7.out.lt⟩
              rw [HG7.out.nc k hk, hjn, List.take_length]
              show _ = some (Value.int IntKind.i64 (parF t _ (atD t x.val :: s) k))
              rw [HGEN.out, parF_cons, if_pos rfl]
              congr 2
              by_cases c : k ∈ t ∧ ¬ (k = p ∨ k ∈ u)
              · rw [if_pos c, if_pos c]
              · rw [if_neg c, if_neg c]
                refine parF_congr (fun y hy => ?_) k
                show T y = if y = p then u else T y
                by_cases e : y = p
                · subst e
                  rw [if_pos rfl]
                  exact (HT3.out y hy).det u (G1.out.congr (fun z => by rw [setB_iff]; simp))
                · rw [if_neg e]
      case done =>
        rintro D' ys W4 hD' hys ⟨hS, hH, T, hT, hG⟩ hK
        have hyt : (ys.map fun x => atD t x.val).reverse = t := by
          rw [show (ys.map fun x => atD t x.val) = (ys.map fun x => x.val).map (atD t) by rw [List.map_map]; rfl, hys, List.map_reverse, List.reverse_reverse]
          apply List.ext_getElem
          · simp
          · intro i h1 h2
            have := atD_get h2
            rw [List.getElem?_eq_getElem h2] at this
            simp
            exact (Option.some.inj this).symm
        rw [hyt] at hT hG
        have z0 := hS.d0; have z1 := hS.d1; have z2 := hS.r0; have z3 := hS.r1; have z4 := hS.rf 0; have z5 := hS.rf 1
        have HS4 := Lib.hid hS; have HH4 := Lib.hid hH; have HT := Lib.hid (show ∃ T' : Nat → List Nat, T' = T ∧ ∀ p ∈ t, VL (nxt es ls) (fun x => x = p) [r] (T' p) from ⟨T, rfl, hT⟩); have HG4 := Lib.hid hG; have HK := Lib.hid hK
        clear hS hH hT hG hK hyt
        gi_wp2
        have hd := HS4.out.dg; have hd2 := HS4.out.dh; have hbd4 := HS4.out.bd
        have hb5 := But.set2 W4 (w.heap.size + 1 + 1) (.slice (some ⟨g, 0, none⟩) P P) (.slice (some ⟨h, 0, none⟩) P P)
        obtain ⟨y0, y1⟩ := set2_box HS4.out.r0 HS4.out.r1 (.slice (some ⟨g, 0, none⟩) P P) (.slice (some ⟨h, 0, none⟩) P P)
        have hDl := (Array.getElem?_eq_some_iff.1 HK.out).1
        have hK5 := (hb5.block D' hDl (by omega)).trans HK.out
        have hG5 := HG4.out.but hb5 (by omega)
        have hH5 := HH4.out.but hb5 (by omega)
        have hB5 : Below w.heap.size w ((W4.setCell ⟨w.heap.size + 1 + 1, 0, none⟩ (.slice (some ⟨g, 0, none⟩) P P)).setCell ⟨w.heap.size + 1 + 1, 1, none⟩ (.slice (some ⟨h, 0, none⟩) P P)) := HS4.out.bl.trans ⟨hb5.os, hb5.tape, hb5.output, hb5.size, fun k hk => hb5.block k (by have := HS4.out.bl.size; omega) (by omega)⟩
        generalize (W4.setCell ⟨w.heap.size + 1 + 1, 0, none⟩ (.slice (some ⟨g, 0, none⟩) P P)).setCell ⟨w.heap.size + 1 + 1, 1, none⟩ (.slice (some ⟨h, 0, none⟩) P P) = W5 at *
        refine ⟨by simp, .inl ⟨_, _, rfl, run_takeDeferred hK5, ?_⟩⟩
        have hbp : But (fun b => b = D') W5 (W5.putObj D' (.deferred none)) := But.of_grown (grownBy_putObj' _ D' _) (fun k e => by cases e; rfl)
        have v0 := (hbp.cell (p := ⟨w.heap.size + 1 + 1, 0, none⟩) (World.block_lt_of_cell? W5 _ y0) (by dsimp only; omega)).trans y0
        have v1 := (hbp.cell (p := ⟨w.heap.size + 1 + 1, 1, none⟩) (World.block_lt_of_cell? W5 _ y1) (by dsimp only; omega)).trans y1
        refine ⟨.agg #[.slice (some ⟨g, 0, none⟩) P P, .slice (some ⟨h, 0, none⟩) P P], by simp [results, Try.results57, go_sem, v0, v1], ?_⟩
        obtain ⟨T', rfl, hT'⟩ := HT.out
        refine ⟨g, h, t, T', rfl, ⟨HVL.out, hT', HBD.out, htl⟩, hG5.but hbp (by omega), hH5.but hbp (by omega), by omega, by omega, hd2.2.2, hB5.trans ⟨hbp.os, hbp.tape, hbp.output, hbp.size, fun k hk => hbp.block k (by have := hB5.size; omega) (by omega)⟩⟩
      case stop =>
        rintro D' c pre W4 _ _ h _
        exact h.elim
end Go.Proofs.Ytjjkabgbcflipaa
