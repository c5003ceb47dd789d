import Derived.Test.YtjjkabgbcflipaaCu23
set_option linter.unusedSimpArgs false
set_option linter.unusedVariables false
namespace Go.Proofs.Ytjjkabgbcflipaa
open Go Go.Proofs Go.RowKit Go.Shelf GM

attribute [local go_sem] Oper.semAt_some

/-- A list of edges that is one's own. -/
def EOwn (lo : Nat) (W : World) (v : Value) (L : List Ed) : Prop := W.ownsRow lo 55 21 v L.length (edCells L)
section
variable {lo : Nat} {W W' : World} {v : Value} {L : List Ed}
theorem EOwn.nil : EOwn lo W (.slice none 0 0) [] := World.ownsRow_nil ..
theorem EOwn.lt (h : EOwn lo W v L) {b : Nat} (e : v.ownBlock = some b) : lo ≤ b ∧ b < W.heap.size := World.ownsRow.lt h b e
theorem EOwn.but {S : Nat → Prop} (h : EOwn lo W v L) (hb : But S W W') (hn : ∀ b, v.ownBlock = some b → ¬ S b) : EOwn lo W' v L := ownsRow_but h hb hn
theorem EOwn.below (h : EOwn lo W v L) (hb : Below W.heap.size W W') : EOwn lo W' v L := h.but (S := fun _ => False) (But.of_below hb) (fun _ _ => id)
theorem EOwn.slice (h : EOwn lo W v L) : ∃ ao c, v = .slice ao L.length c := by
  rcases h.2 with ⟨e, h0⟩ | ⟨g, cap, cur, e, -⟩
  · exact ⟨none, 0, by rw [e, h0]⟩
  · exact ⟨_, cap, e⟩
theorem edCells_len : ∀ (L : List Ed), (edCells L).length = L.length * 21 := fun L => edCells_length L (fun x _ => x.good)
theorem edCells_snoc (L : List Ed) (d : Ed) : edCells (L ++ [d]) = edCells L ++ d.cs.toList := by
  rw [edCells_app]; simp [edCells]
/-- As a row that can be read. -/
theorem EOwn.row {ao : Option Addr} {n c : Nat} (h : EOwn lo W (.slice ao n c) L) : ERow (fun b => lo ≤ b) W ao c L := by
  rcases id h.2 with ⟨e, h0⟩ | ⟨g, cap, cur, e, hlo, hg, h1, h2, -⟩
  · cases e
    have : L = [] := List.length_eq_zero_iff.1 h0
    subst this
    exact ⟨Nat.le_refl _, by decide, fun x hx => by simp at hx, .inl rfl⟩
  · cases e
    refine ⟨h1, h2, fun x _ => x.good, .inr ⟨g, 0, rfl, hlo, (Array.getElem?_eq_some_iff.1 hg).1, fun j u hu => ?_⟩⟩
    have hj : j < L.length * 21 := by
      have := (List.getElem?_eq_some_iff.1 hu).1
      rwa [edCells_len] at this
    rw [Nat.zero_add, World.ownsRow.cellAt h j hj]; exact hu
end
theorem infoEdge : (Try.prog.info? 55).map (fun i => (i.zero, i.size, i.bytes)) = some (some (.agg (edD [] 0).cs), 21, 280) := by kernel_rfl
/-- An edge is appended. -/
theorem wpList_pushE {lo : Nat} {W : World} {v : Value} {L : List Ed} {d : Ed} {ops : Array Oper} {rest : List Oper} {o : Oper} {a : Act} {Q : Exit → Act → World → Prop}
    (hg : o.guard = none) (s x : Operand) (hop : o.op = Op.call { callee := Callee.builtin Builtin.append, args := #[s, x], argTypes := #[22, 22] })
    (hs : a.eval s = v) (hown : EOwn lo W v L) (hl : L.length ≤ 100000) (hbase : lo ≤ W.heap.size)
    (ad : Nat) (hx : a.eval x = .slice (some ⟨ad, 0, none⟩) 1 1) (hc : EdAt W ad 0 d)
    (hK : ∀ (g cap n : Nat) (w9 : World), n = L.length + 1 → EOwn lo w9 (.slice (some ⟨g, 0, none⟩) n cap) (L ++ [d]) → W.grownBy w9 v.ownBlock → (v.ownBlock = some g ∨ g = W.heap.size) → wpList Try.prog ops Q rest (a.put o.dst (.slice (some ⟨g, 0, none⟩) n cap)) w9) :
    wpList Try.prog ops Q (o :: rest) a W := by
  obtain ⟨i0, hi, hz0, hz1, hz2⟩ := info_parts infoEdge
  refine wpList_append_lies W hg s x 22 hop lo 55 i0 (.agg (edD [] 0).cs) 21 280 Try.underlying22 hi hz0 hz1 hz2 rfl (by decide) v L.length (edCells L) hs hown ⟨ad, 0, none⟩ 1 1 d.cs.toList hx rfl ?_ ?_ (by decide) (by unfold maxLen; omega) (by omega) hbase _ rfl ?_
  · intro j u hu
    rw [Array.getElem?_toList] at hu
    have := hc j u hu
    rw [show (⟨ad, 0, none⟩ : Addr).add j = ⟨ad, 0 + j, none⟩ by unfold Addr.add; split <;> simp_all]
    exact this
  · intro u hu
    have := d.good.one
    rw [Array.all_eq_true'] at this
    exact this u (Array.mem_toList_iff.1 hu)
  · intro g cap w9 hown9 hgrow hgg hg9
    refine hK g cap _ w9 rfl ?_ hgrow hgg
    unfold EOwn
    rw [List.length_append, edCells_snoc]
    exact hown9
theorem zE_cs (f t : Int) : (zE f t).cs = #[.int .i64 f, .int .i64 t, .int .i64 0, .int .i64 0, .int .i64 0, .int .i64 0, .int .i64 0, .int .i64 0, .int .i64 0, .string ⟨#[]⟩, .int .i64 0, .slice none 0 0, .int .i64 0, .string ⟨#[]⟩, .int .i64 0, .slice none 0 0, .int .i64 0, .slice none 0 0, .slice none 0 0, .slice none 0 0, .slice none 0 0] := rfl
def prD (ps : List (Int × Int)) (k : Nat) : Int × Int := ps.getD k (0, 0)
theorem prD_take {ps : List (Int × Int)} {k : Nat} (h : k < ps.length) : ps.take (k + 1) = ps.take k ++ [prD ps k] := by
  unfold prD
  rw [List.take_add_one, List.getElem?_eq_getElem h, List.getD_eq_getElem?_getD, List.getElem?_eq_getElem h]; rfl
set_option maxRecDepth 100000 in
set_option maxHeartbeats 600000 in
theorem edges_any (n x : Int) (b c : Nat) (ps : List (Int × Int)) (w : World) (hl : ps.length ≤ 1000) (hb : b < w.heap.size)
    (hc : ∀ k, k < ps.length → w.cell? ⟨b, k * 2, none⟩ = some (.int .i64 (prD ps k).1) ∧ w.cell? ⟨b, k * 2 + 1, none⟩ = some (.int .i64 (prD ps k).2)) :
    Calls Try.prog 46 #[.int .i64 n, .int .i64 x, .slice (some ⟨b, 0, none⟩) ps.length c] w fun e w' => ∃ ao c, e = .returned (.agg #[.int .i64 n, .int .i64 x, .slice ao ps.length c]) ∧ EOwn w.heap.size w' (.slice ao ps.length c) (ps.map fun p => zE p.1 p.2) ∧ Below w.heap.size w w' := by
  have hc2 := Lib.hid hc
  clear hc
  obtain ⟨m, hm⟩ : ∃ m, ps.length = m := ⟨_, rfl⟩
  rw [hm]
  have HM := Lib.hid hm
  have hm1 : m ≤ 1000 := by omega
  clear hm hl
  go_enter Try.func46, Try.ntmps46
  have hz0 : ((w.alloc (Obj.cells #[.int .i64 0, .int .i64 0, nilS] 24)).alloc (Obj.cells #[.int .i64 n, .int .i64 x, nilS] 24)).heap.size = w.heap.size + 1 + 1 := by simp
  have b0 : Below w.heap.size w ((w.alloc (Obj.cells #[.int .i64 0, .int .i64 0, nilS] 24)).alloc (Obj.cells #[.int .i64 n, .int .i64 x, nilS] 24)) := ((Below.refl _ _).alloc (Nat.le_refl _) _).alloc (by simp) _
  have k0 : ((w.alloc (Obj.cells #[.int .i64 0, .int .i64 0, nilS] 24)).alloc (Obj.cells #[.int .i64 n, .int .i64 x, nilS] 24)).cell? ⟨w.heap.size + 1, 0, none⟩ = some (.int .i64 n) := by go_cell
  have k1 : ((w.alloc (Obj.cells #[.int .i64 0, .int .i64 0, nilS] 24)).alloc (Obj.cells #[.int .i64 n, .int .i64 x, nilS] 24)).cell? ⟨w.heap.size + 1, 1, none⟩ = some (.int .i64 x) := by go_cell
  have k2 : ((w.alloc (Obj.cells #[.int .i64 0, .int .i64 0, nilS] 24)).alloc (Obj.cells #[.int .i64 n, .int .i64 x, nilS] 24)).cell? ⟨w.heap.size + 1, 2, none⟩ = some nilS := by go_cell
  have l0 : ((w.alloc (Obj.cells #[.int .i64 0, .int .i64 0, nilS] 24)).alloc (Obj.cells #[.int .i64 n, .int .i64 x, nilS] 24)).cell? ⟨w.heap.size, 0, none⟩ = some (.int .i64 0) := by go_cell
  have l1 : ((w.alloc (Obj.cells #[.int .i64 0, .int .i64 0, nilS] 24)).alloc (Obj.cells #[.int .i64 n, .int .i64 x, nilS] 24)).cell? ⟨w.heap.size, 1, none⟩ = some (.int .i64 0) := by go_cell
  have l2 : ((w.alloc (Obj.cells #[.int .i64 0, .int .i64 0, nilS] 24)).alloc (Obj.cells #[.int .i64 n, .int .i64 x, nilS] 24)).cell? ⟨w.heap.size, 2, none⟩ = some nilS := by go_cell
  have f0 : ∀ j, ((w.alloc (Obj.cells #[.int .i64 0, .int .i64 0, nilS] 24)).alloc (Obj.cells #[.int .i64 n, .int .i64 x, nilS] 24)).frozen? ⟨w.heap.size + 1, j, none⟩ = false := fun j => by
    rw [show w.heap.size + 1 = (w.alloc (Obj.cells #[.int .i64 0, .int .i64 0, nilS] 24)).heap.size by simp]
    exact frozen_of_row _ _ j _ _ (heap_alloc_last _ _)
  have f1 : ∀ j, ((w.alloc (Obj.cells #[.int .i64 0, .int .i64 0, nilS] 24)).alloc (Obj.cells #[.int .i64 n, .int .i64 x, nilS] 24)).frozen? ⟨w.heap.size, j, none⟩ = false := fun j => ((Below.refl _ _).alloc (by simp) _).frozen (p := ⟨w.heap.size, j, none⟩) (B := w.heap.size + 1) (by dsimp only; omega) |>.trans (frozen_of_row _ _ j _ _ (heap_alloc_last _ _))
  have B0' := Lib.hid b0; have L0 := Lib.hid l0; have L1 := Lib.hid l1; have L2 := Lib.hid l2; have F0 := Lib.hid f0; have F1 := Lib.hid f1; have K0 := Lib.hid k0; have K1 := Lib.hid k1; have K2 := Lib.hid k2; have HZ0 := Lib.hid hz0
  clear b0 k0 k1 k2 l0 l1 l2 f0 f1 hz0
  go_wp2_with fail
  generalize ((w.alloc (Obj.cells #[.int .i64 0, .int .i64 0, nilS] 24)).alloc (Obj.cells #[.int .i64 n, .int .i64 x, nilS] 24)) = W0 at *
  go_loopw [15] (fun iv wr => ∃ (k : Nat) (v : Value), k ≤ m ∧ iv = .int .i64 (k : Int) ∧ EOwn (w.heap.size + 1 + 1) wr v ((ps.take k).map fun p => zE p.1 p.2) ∧ wr.cell? ⟨w.heap.size + 1, 2, none⟩ = some v ∧ wr.cell? ⟨w.heap.size + 1, 0, none⟩ = some (.int .i64 n) ∧ wr.cell? ⟨w.heap.size + 1, 1, none⟩ = some (.int .i64 x) ∧ (∀ j, wr.frozen? ⟨w.heap.size + 1, j, none⟩ = false) ∧ But (fun b => b = w.heap.size + 1) W0 wr) (fun iv _ => m - (intOf iv).toNat)
  case atStart => exact ⟨0, _, Nat.zero_le _, rfl, EOwn.nil, K2.out, K0.out, K1.out, F0.out, But.refl _ _⟩
  case round =>
    obtain ⟨k, v, hk, rfl, hown, y2, y0, y1, yf, hB⟩ := hrel
    obtain ⟨vo, vc, rfl⟩ := hown.slice
    have hlk : ((ps.take k).map fun p => zE p.1 p.2).length = k := by rw [List.length_map, List.length_take, HM.out]; omega
    rw [hlk] at hown y2
    have hwz : w.heap.size + 1 + 1 ≤ wr.heap.size := by have := hB.size; have := HZ0.out; omega
    by_cases hlt : k < m
    · obtain ⟨c0, c1⟩ := hc2.out k (by rw [HM.out]; exact hlt)
      have hbw : ∀ q : Addr, q.block = b → wr.cell? q = w.cell? q := fun q hq => (hB.cell (by have := HZ0.out; omega) (fun e => by omega)).trans (B0'.out.cell (by omega))
      have x0 := (hbw ⟨b, k * 2, none⟩ rfl).trans c0
      have x1 := (hbw ⟨b, k * 2 + 1, none⟩ rfl).trans c1
      have HOWN := Lib.hid hown; have HB := Lib.hid hB; have HLK := Lib.hid hlk
      clear hown hB hlk hbw c0 c1
      obtain ⟨f, hf⟩ : ∃ f, (prD ps k).1 = f := ⟨_, rfl⟩
      obtain ⟨t, ht⟩ : ∃ t, (prD ps k).2 = t := ⟨_, rfl⟩
      rw [hf] at x0; rw [ht] at x1
      have HF := Lib.hid hf; have HT := Lib.hid ht
      clear hf ht
      have bA : Below wr.heap.size wr (wr.alloc (Obj.cells #[.int .i64 f, .int .i64 t] 87)) := (Below.refl _ _).alloc (Nat.le_refl _) _
      have hzA : (wr.alloc (Obj.cells #[.int .i64 f, .int .i64 t] 87)).heap.size = wr.heap.size + 1 := by simp
      have z2 := (bA.cell (p := ⟨w.heap.size + 1, 2, none⟩) (by dsimp only; omega)).trans y2
      have z3 := (bA.frozen (p := ⟨w.heap.size + 1, 2, none⟩) (by dsimp only; omega)).trans (yf 2)
      have z4 : (wr.alloc (Obj.cells #[.int .i64 f, .int .i64 t] 87)).cell? ⟨wr.heap.size, 0, none⟩ = some (.int .i64 f) := by go_cell
      have z5 : (wr.alloc (Obj.cells #[.int .i64 f, .int .i64 t] 87)).cell? ⟨wr.heap.size, 1, none⟩ = some (.int .i64 t) := by go_cell
      have hoA := HOWN.out.below bA
      have hbA := HB.out.next bA
      have HOA := Lib.hid hoA; have HBA := Lib.hid hbA; have HZA := Lib.hid hzA
      have HY := Lib.hid (And.intro y0 (And.intro y1 yf))
      have bB : Below (wr.alloc (Obj.cells #[.int .i64 f, .int .i64 t] 87)).heap.size (wr.alloc (Obj.cells #[.int .i64 f, .int .i64 t] 87)) ((wr.alloc (Obj.cells #[.int .i64 f, .int .i64 t] 87)).alloc (.cells #[.int .i64 f, .int .i64 t, .int .i64 0, .int .i64 0, .int .i64 0, .int .i64 0, .int .i64 0, .int .i64 0, .int .i64 0, .string ⟨#[]⟩, .int .i64 0, .slice none 0 0, .int .i64 0, .string ⟨#[]⟩, .int .i64 0, .slice none 0 0, .int .i64 0, .slice none 0 0, .slice none 0 0, .slice none 0 0, .slice none 0 0] 55)) := (Below.refl _ _).alloc (Nat.le_refl _) _
      have heB := EdAt.box (wr.alloc (Obj.cells #[.int .i64 f, .int .i64 t] 87)) (zE f t)
      rw [zE_cs] at heB
      rw [hzA] at heB
      have hoB := hoA.below bB
      have hbB := hbA.next bB
      have u2 := (bB.cell (p := ⟨w.heap.size + 1, 2, none⟩) (by rw [hzA]; dsimp only; omega)).trans z2
      have u3 := (bB.frozen (p := ⟨w.heap.size + 1, 2, none⟩) (by rw [hzA]; dsimp only; omega)).trans z3
      have hzB : ((wr.alloc (Obj.cells #[.int .i64 f, .int .i64 t] 87)).alloc (.cells #[.int .i64 f, .int .i64 t, .int .i64 0, .int .i64 0, .int .i64 0, .int .i64 0, .int .i64 0, .int .i64 0, .int .i64 0, .string ⟨#[]⟩, .int .i64 0, .slice none 0 0, .int .i64 0, .string ⟨#[]⟩, .int .i64 0, .slice none 0 0, .int .i64 0, .slice none 0 0, .slice none 0 0, .slice none 0 0, .slice none 0 0] 55)).heap.size = wr.heap.size + 1 + 1 := by simp
      have HOB := Lib.hid hoB; have HBB := Lib.hid hbB; have HEB := Lib.hid heB; have U2 := Lib.hid u2; have U3 := Lib.hid u3; have HZB := Lib.hid hzB
      have BAB := Lib.hid (Below.chain bA bB)
      have HLE : Hid (w.heap.size + 1 + 1 ≤ ((wr.alloc (Obj.cells #[.int .i64 f, .int .i64 t] 87)).alloc (.cells #[.int .i64 f, .int .i64 t, .int .i64 0, .int .i64 0, .int .i64 0, .int .i64 0, .int .i64 0, .int .i64 0, .int .i64 0, .string ⟨#[]⟩, .int .i64 0, .slice none 0 0, .int .i64 0, .string ⟨#[]⟩, .int .i64 0, .slice none 0 0, .int .i64 0, .slice none 0 0, .slice none 0 0, .slice none 0 0, .slice none 0 0] 55)).heap.size) := Lib.hid (by rw [hzB]; omega)
      have HLK2 : Hid (((ps.take k).map fun p => zE p.1 p.2).length ≤ 100000) := Lib.hid (by rw [HLK.out]; omega)
      clear bA hzA hoA hbA bB heB hoB hbB u2 u3 hzB
      go_wp2_with (first | (at_builtin; refine wpList_pushE (lo := w.heap.size + 1 + 1) (L := (ps.take k).map fun p => zE p.1 p.2) rfl (.tmp 20) (.tmp 26) rfl (by simp [Act.eval, Act.put]) HOB.out HLK2.out HLE.out (wr.heap.size + 1) (by simp [Act.eval, Act.put]) HEB.out ?_; intro g9 cap n9 w9 hn9 h9 hg9 hgx; clear hgx; obtain rfl : n9 = k + 1 := hn9.trans (by rw [HLK.out]); clear hn9; refine Hid.out ?_) | fail)
      have b9 := But.of_grown (S := fun b => (Value.slice vo k vc).ownBlock = some b) hg9 (fun _ e => e)
      have hno : ¬ (Value.slice vo k vc).ownBlock = some (w.heap.size + 1) := fun e => by have := (HOB.out.lt e).1; omega
      have s2 := (b9.cell (p := ⟨w.heap.size + 1, 2, none⟩) (by rw [HZB.out]; dsimp only; omega) hno).trans U2.out
      have s3 := (b9.frozen (p := ⟨w.heap.size + 1, 2, none⟩) (by rw [HZB.out]; dsimp only; omega) hno).trans U3.out
      have H9 := Lib.hid h9; have B9 := Lib.hid b9; have HNO := Lib.hid hno
      clear h9 b9 hg9 hno
      refine Lib.hid ?_
      go_wp2_with fail
      go_roundw
      case rel =>
        have hb9 : But (fun b => b = w.heap.size + 1) W0 (w9.setCell ⟨w.heap.size + 1, 2, none⟩ (.slice (some ⟨g9, 0, none⟩) (k + 1) cap)) :=
          (HBB.out.trans B9.out (fun k' hk' e => by have := (HOB.out.lt e).1; have := HZ0.out; omega)).set _ _ (fun _ => rfl)
        refine ⟨k + 1, _, hlt, by go_num, ?_, cellSet s2 _, ?_, ?_, fun j => ?_, hb9⟩
        · rw [prD_take (by rw [HM.out]; exact hlt), List.map_append, List.map_cons, List.map_nil, HF.out, HT.out]
          exact H9.out.but (But.set (S := fun b => b = w.heap.size + 1) (But.refl _ w9) ⟨w.heap.size + 1, 2, none⟩ _ (fun _ => rfl)) (fun b e q => by have := (H9.out.lt e).1; omega)
        · rw [World.cell?_setCell_other (h := by intro q; cases q)]; exact (B9.out.cell (p := ⟨w.heap.size + 1, 0, none⟩) (Nat.lt_of_lt_of_le (by dsimp only; omega) HLE.out) HNO.out).trans ((BAB.out.cell (p := ⟨w.heap.size + 1, 0, none⟩) (by dsimp only; omega)).trans HY.out.1)
        · rw [World.cell?_setCell_other (h := by intro q; cases q)]; exact (B9.out.cell (p := ⟨w.heap.size + 1, 1, none⟩) (Nat.lt_of_lt_of_le (by dsimp only; omega) HLE.out) HNO.out).trans ((BAB.out.cell (p := ⟨w.heap.size + 1, 1, none⟩) (by dsimp only; omega)).trans HY.out.2.1)
        · rw [World.frozen?_setCell]; exact (B9.out.frozen (p := ⟨w.heap.size + 1, j, none⟩) (Nat.lt_of_lt_of_le (by dsimp only; omega) HLE.out) HNO.out).trans ((BAB.out.frozen (p := ⟨w.heap.size + 1, j, none⟩) (by dsimp only; omega)).trans (HY.out.2.2 j))
      case measure => simp [intOf]; omega
    · have hkm : k = m := by omega
      subst hkm
      have htk : ps.take k = ps := List.take_of_length_le (by rw [HM.out]; omega)
      rw [htk] at hown
      have q0 := (hB.cell (p := ⟨w.heap.size, 0, none⟩) (by have := HZ0.out; dsimp only; omega) (by dsimp only; omega)).trans L0.out
      have q1 := (hB.cell (p := ⟨w.heap.size, 1, none⟩) (by have := HZ0.out; dsimp only; omega) (by dsimp only; omega)).trans L1.out
      have q2 := (hB.cell (p := ⟨w.heap.size, 2, none⟩) (by have := HZ0.out; dsimp only; omega) (by dsimp only; omega)).trans L2.out
      have q3 := fun j => (hB.frozen (p := ⟨w.heap.size, j, none⟩) (by have := HZ0.out; dsimp only; omega) (by dsimp only; omega)).trans (F1.out j)
      have HOWN := Lib.hid hown; have HB := Lib.hid hB
      clear hown hB hlk htk
      go_wp2_with fail
      have hbf : But (fun b => b = w.heap.size ∨ b = w.heap.size + 1) W0 (((wr.setCell ⟨w.heap.size, 0, none⟩ (.int .i64 n)).setCell ⟨w.heap.size, 1, none⟩ (.int .i64 x)).setCell ⟨w.heap.size, 2, none⟩ (.slice vo k vc)) :=
        (((HB.out.mono (fun _ _ e => .inr e)).set _ _ (fun _ => .inl rfl)).set _ _ (fun _ => .inl rfl)).set _ _ (fun _ => .inl rfl)
      have hbw : But (fun b => b = w.heap.size) wr (((wr.setCell ⟨w.heap.size, 0, none⟩ (.int .i64 n)).setCell ⟨w.heap.size, 1, none⟩ (.int .i64 x)).setCell ⟨w.heap.size, 2, none⟩ (.slice vo k vc)) :=
        (((But.refl (fun b => b = w.heap.size) wr).set ⟨w.heap.size, 0, none⟩ (.int .i64 n) (fun _ => rfl)).set ⟨w.heap.size, 1, none⟩ (.int .i64 x) (fun _ => rfl)).set ⟨w.heap.size, 2, none⟩ (.slice vo k vc) (fun _ => rfl)
      have e0 : ∀ W : World, ∀ z : Value, ∀ j, ∀ u, W.cell? ⟨w.heap.size, j, none⟩ = some u → (W.setCell ⟨w.heap.size, j, none⟩ z).cell? ⟨w.heap.size, j, none⟩ = some z := fun W z j u h => cellSet h z
      have r0 := cellSet q0 (.int .i64 n)
      have r1' : (wr.setCell ⟨w.heap.size, 0, none⟩ (.int .i64 n)).cell? ⟨w.heap.size, 1, none⟩ = some (.int .i64 0) := by rw [World.cell?_setCell_other (h := by intro q; cases q)]; exact q1
      have r1 := cellSet r1' (.int .i64 x)
      have r2' : ((wr.setCell ⟨w.heap.size, 0, none⟩ (.int .i64 n)).setCell ⟨w.heap.size, 1, none⟩ (.int .i64 x)).cell? ⟨w.heap.size, 2, none⟩ = some nilS := by rw [World.cell?_setCell_other (h := by intro q; cases q), World.cell?_setCell_other (h := by intro q; cases q)]; exact q2
      have r2 := cellSet r2' (.slice vo k vc)
      have t0 : (((wr.setCell ⟨w.heap.size, 0, none⟩ (.int .i64 n)).setCell ⟨w.heap.size, 1, none⟩ (.int .i64 x)).setCell ⟨w.heap.size, 2, none⟩ (.slice vo k vc)).cell? ⟨w.heap.size, 0, none⟩ = some (.int .i64 n) := by rw [World.cell?_setCell_other (h := by intro q; cases q), World.cell?_setCell_other (h := by intro q; cases q)]; exact r0
      have t1 : (((wr.setCell ⟨w.heap.size, 0, none⟩ (.int .i64 n)).setCell ⟨w.heap.size, 1, none⟩ (.int .i64 x)).setCell ⟨w.heap.size, 2, none⟩ (.slice vo k vc)).cell? ⟨w.heap.size, 1, none⟩ = some (.int .i64 x) := by rw [World.cell?_setCell_other (h := by intro q; cases q)]; exact r1
      clear r0 r1' r1 r2' e0 q0 q1 q2 q3
      generalize ((wr.setCell ⟨w.heap.size, 0, none⟩ (.int .i64 n)).setCell ⟨w.heap.size, 1, none⟩ (.int .i64 x)).setCell ⟨w.heap.size, 2, none⟩ (.slice vo k vc) = W9 at *
      refine bodyPost_ret (by simp [results, Try.results46, go_sem, t0, t1, r2]; first | done | rfl) rfl ?_
      refine ⟨vo, vc, rfl, ?_, B0'.out.trans ⟨hbf.os, hbf.tape, hbf.output, hbf.size, fun j hj => hbf.block j (by have := HZ0.out; omega) (by omega)⟩⟩
      exact World.ownsRow.mono ((HOWN.out).but hbw (fun b e q => by have := (HOWN.out.lt e).1; omega)) (by omega)
end Go.Proofs.Ytjjkabgbcflipaa
