import Derived.Test.YtjobmkdaaionlaaGreatDoorCut36

set_option linter.unusedVariables false
/-
  linear: the reference's Put.
-/
set_option linter.unusedSimpArgs false
namespace Go.Proofs.YtjobmkdaaionlaaGreatDoor
open Go Go.Proofs Go.RowKit

theorem set_eq_range (l : List ByteArray) (j : Nat) (z : ByteArray) : (List.range l.length).map (fun t => if t = j then z else l.getD t ⟨#[]⟩) = l.set j z := by
  apply List.ext_getElem
  · simp
  · intro n h1 h2
    have hn : n < l.length := by simpa using h1
    rw [List.getElem_map, List.getElem_range, List.getElem_set]
    by_cases e : j = n
    · rw [if_pos e, if_pos e.symm]
    · rw [if_neg e, if_neg (fun h => e h.symm), getD_get l hn]
theorem set_good2 {l : List ByteArray} {k : ByteArray} {m : Nat} (hm : 0 < m) (hg : ∀ s ∈ l ++ [k], Good m s) (j : Nat) : ∀ s ∈ l.set j z0 ++ [k], Good m s := by
  intro s hs
  rcases List.mem_append.1 hs with h | h
  · exact set_good (fun s hs => hg s (List.mem_append_left _ hs)) j (good0 hm) s h
  · exact hg s (List.mem_append_right _ h)

set_option maxRecDepth 20000 in
set_option maxHeartbeats 8000000 in
theorem refPut (l : List ByteArray) (k : ByteArray) (ao : Option Addr) (c : Nat) (j : Nat) (m : List ByteArray) (k2 : ByteArray) (bo : Option Addr) (d : Nat) (w : World) (hr : SRow w ao c l) (hr2 : SRow w bo d m) (hlm : m.length = l.length) (hn : l.length ≤ 1000) (hj : j < l.length)
    (hg : ∀ s ∈ l ++ [k], Good 100 s) (hg2 : ∀ s ∈ m ++ [k2], Good 100 s) :
    Calls Tryz.prog 73 #[.agg #[.slice ao l.length c, .string k], .int .i64 (j : Int), .agg #[.slice bo m.length d, .string k2]] w (OutRet (w.heap.size + 3) (List.zipWith addT (l.set j z0) (m.map fun s => mulT s (l.getD j ⟨#[]⟩))) (addT k (mulT k2 (l.getD j ⟨#[]⟩))) w) := by
  have glj : Good 100 (l[j]'hj) := hg _ (List.mem_append_left _ (List.getElem_mem hj))
  have CT := fun (W : World) (hW : Below w.heap.size w W) => refTimesL m k2 (l[j]'hj) bo d 100 100 W (hr2.mono hW) (by omega) hg2 glj (by decide) (by decide) (by decide) (by decide)
  have hml : (m.map fun s => mulT s (l[j]'hj)).length = l.length := by simp; omega
  have hsl : (l.set j z0).length = l.length := List.length_set ..
  have CP := fun (W : World) (a2 : Option Addr) (c2 : Nat) (b2 : Option Addr) (d2 : Nat) (r : SRow W a2 c2 (l.set j z0)) (r2 : SRow W b2 d2 (m.map fun s => mulT s (l[j]'hj))) => refPlusL (l.set j z0) k a2 c2 100 (m.map fun s => mulT s (l[j]'hj)) (mulT k2 (l[j]'hj)) b2 d2 (100 + 100) W r r2 (by rw [hml, hsl]) (by rw [hsl]; exact hn) (set_good2 (by decide) hg j) (map_good2 hg2 glj) (by decide) (by decide) (by decide) (by decide)
  rw [getD_get l hj]
  rw [hml, hsl] at CP
  unfold OutRet at CT
  rw [hml] at CT
  have hrow : ∀ W, Below w.heap.size w W → ∀ t (ht : t < l.length), ∃ b off, ao = some ⟨b, off, none⟩ ∧ b < W.heap.size ∧ W.cell? ⟨b, off + t, none⟩ = some (.string (l[t]'ht)) := fun W hW => (hr.mono hW).get
  have hset := set_eq_range l j z0
  generalize (l.set j z0) = ls at *
  have hlj : ∃ b off, ao = some ⟨b, off, none⟩ ∧ b < w.heap.size ∧ w.cell? ⟨b, off + j, none⟩ = some (.string (l[j]'hj)) := hr.get j hj
  generalize (m.map fun s => mulT s (l[j]'hj)) = mt at *
  generalize mulT k2 (l[j]'hj) = kt at *
  generalize l[j]'hj = lj at *
  obtain ⟨b0, off0, rfl, hb0, hc0⟩ := hlj
  generalize hf : (fun t => if t = j then z0 else l.getD t ⟨#[]⟩) = f at *
  have hf0 : f j = z0 := by subst hf; exact if_pos rfl
  have hf1 : ∀ t (ht : t < l.length), t ≠ j → l[t]'ht = f t := fun t ht e => by subst hf; show l[t]'ht = if t = j then z0 else l.getD t ⟨#[]⟩; rw [if_neg e, getD_get l ht]
  unfold OutRet at CP
  have hzl : (List.zipWith addT ls mt).length = l.length := by rw [List.length_zipWith]; omega
  rw [hzl] at CP
  have HZL := Lib.hid hzl; clear hzl
  have e1 : ({ data := #[48] } : ByteArray) = z0 := rfl
  rw [hlm] at CT ⊢
  clear hf
  obtain ⟨X, Y, Z, B⟩ := entry3 w (.slice (some ⟨b0, off0, none⟩) l.length c) (.string k) (.slice bo l.length d) (.string k2) (.slice none 0 0) (.string ⟨#[]⟩) 27
  have x0 := X.c0; have x1 := X.c1; have x4 := X.lt
  have HROW := Lib.hid hrow; have HLM := Lib.hid hlm; have KT := Lib.hid CT; have KP := Lib.hid CP; have HF0 := Lib.hid hf0; have HF1 := Lib.hid hf1; have HG := Lib.hid hg; have HSL := Lib.hid hsl; have HML := Lib.hid hml; have HST := Lib.hid hset
  clear hrow hlm CT CP hr hr2 hg2 glj hf0 hf1 hg hsl hml hset
  go_enter Tryz.func73, Tryz.ntmps73
  go_wp2_with fail
  have O2 := OutL.new (((w.alloc (Obj.cells #[.slice (some ⟨b0, off0, none⟩) l.length c, .string k] 27)).alloc (Obj.cells #[.slice bo l.length d, .string k2] 27)).alloc (Obj.cells #[.slice none 0 0, .string ⟨#[]⟩] 27)) k 27
  have N1 := nb (Below.refl _ ((((w.alloc (Obj.cells #[.slice (some ⟨b0, off0, none⟩) l.length c, .string k] 27)).alloc (Obj.cells #[.slice bo l.length d, .string k2] 27)).alloc (Obj.cells #[.slice none 0 0, .string ⟨#[]⟩] 27)))) (Obj.cells #[.slice none 0 0, .string k] 27)
  have X2 := X.mono N1; have Y2 := Y.mono N1; have Z2 := Z.mono N1; have B2 := Below.chain B N1
  rw [World.size_alloc, World.size_alloc, World.size_alloc] at O2
  clear X Y Z B N1 x0 x1 x4
  go_loopw [8] (fun iv wr => ∃ (t : Nat) (a2 : Option Addr) (c2 : Nat), t ≤ l.length ∧ iv = .int .i64 (t : Int) ∧ Bx2 wr w.heap.size (.slice (some ⟨b0, off0, none⟩) l.length c) (.string k) ∧ Bx2 wr (w.heap.size + 1) (.slice bo l.length d) (.string k2) ∧ Bx2 wr (w.heap.size + 2) (.slice none 0 0) (.string ⟨#[]⟩) ∧ OutL wr (w.heap.size + 3) a2 c2 ((List.range t).map f) k ∧ Below w.heap.size w wr) (fun iv _ => l.length - (intOf iv).toNat)
  case atStart => exact ⟨0, none, 0, Nat.zero_le _, rfl, X2, Y2, Z2, O2, B2⟩
  case round =>
    obtain ⟨t, a2, c2, ht, rfl, hl, hy, hz, hx, hB⟩ := hrel
    clear X2 Y2 Z2 B2
    by_cases hlt : t < l.length
    · obtain ⟨b, off, e', hbl, hcl⟩ := HROW.out wr hB t hlt
      cases e'
      have hF := HF1.out t hlt
      have hlen := range_len f t
      generalize l[t]'hlt = sj at *
      have hj0 : (0 : Int) ≤ (t : Int) := by omega
      have hj1 : (t : Int) < (l.length : Int) := by omega
      by_cases htj : t = j
      · have hd : ((t : Int) = (j : Int)) := by omega
        clear hF
        subst htj
        have X1 := hx.mono ((Below.refl _ _).alloc (Nat.le_refl _) (Obj.cells #[.string z0] 22))
        have L1 := hl.mono ((Below.refl _ _).alloc (Nat.le_refl _) (Obj.cells #[.string z0] 22))
        have Y1 := hy.mono ((Below.refl _ _).alloc (Nat.le_refl _) (Obj.cells #[.string z0] 22))
        have Z1 := hz.mono ((Below.refl _ _).alloc (Nat.le_refl _) (Obj.cells #[.string z0] 22))
        have hB1 := hB.alloc hB.size (Obj.cells #[.string z0] 22)
        have x0 := hx.bx.c0; have x4 := hx.bx.lt; have l0 := hl.c0; have l4 := hl.lt
        have y0 := X1.bx.f0
        rw [hlen] at x0
        have ho1 := X1.own
        rw [hlen] at ho1
        have HX := Lib.hid X1; have HL := Lib.hid L1; have HY := Lib.hid Y1; have HZ := Lib.hid Z1; have HB := Lib.hid hB1
        clear hx hl hy hz X1 L1 Y1 Z1 hB1 hB
        go_wp2_with (first | (at_builtin; refine wpList_append_row rfl (.tmp 29) (.tmp 31) rfl (w.heap.size + 3 + 1) _ t ((List.range t).map f) hlen (by simp [Act.eval, Act.put]) ho1 (by omega) (by simp; omega) wr.heap.size z0 (by simp [Act.eval, Act.put]) (by go_cell) ?_; intro g cap w9 hown9 hb9; refine Hid.out ?_) | fail)
        have hown9' : w9.ownsRow (w.heap.size + 3 + 1) 22 1 (.slice (some ⟨g, 0, none⟩) (((List.range t).map f).length + 1) cap) (((List.range t).map f).length + 1) (strCells (((List.range t).map f) ++ [z0])) := by rw [hlen]; exact hown9
        have N := HX.out.next hown9' hb9
        rw [hlen, show z0 = f t from HF0.out.symm, range_snoc] at N
        have q0 := (HX.out.bx.low hb9 (Nat.lt_succ_self _)).c0; have q1 := (HX.out.bx.low hb9 (Nat.lt_succ_self _)).f0; have q2 := (HX.out.bx.low hb9 (Nat.lt_succ_self _)).lt
        have L9 := (HL.out.low hb9 (by omega)).set (g := w.heap.size + 3) (by omega) 0 (.slice (some ⟨g, 0, none⟩) (t + 1) cap)
        have Y9 := (HY.out.low hb9 (by omega)).set (g := w.heap.size + 3) (by omega) 0 (.slice (some ⟨g, 0, none⟩) (t + 1) cap)
        have Z9 := (HZ.out.low hb9 (by omega)).set (g := w.heap.size + 3) (by omega) 0 (.slice (some ⟨g, 0, none⟩) (t + 1) cap)
        have B9 := ((HB.out.trans (hb9.mono (by omega))).setCell (p := ⟨w.heap.size + 3, 0, none⟩) (by dsimp only; omega) (.slice (some ⟨g, 0, none⟩) (t + 1) cap))
        have HN := Lib.hid N; have HL9 := Lib.hid L9; have HY9 := Lib.hid Y9; have HZ9 := Lib.hid Z9; have HB9 := Lib.hid B9
        clear N L9 Y9 Z9 B9 hown9 hown9' hb9 ho1
        refine Lib.hid ?_
        go_wp2
        go_roundw
        case rel => exact ⟨t + 1, _, cap, by omega, by go_num, HL9.out, HY9.out, HZ9.out, HN.out, HB9.out⟩
        case measure => simp [intOf]; omega
      · have hd : ¬ ((t : Int) = (j : Int)) := by omega
        have hdb : ((t : Int) == (j : Int)) = false := by simpa using hd
        have hdc : decide ((t : Int) = (j : Int)) = false := by simpa using hd
        have hdn : (t == j) = false := by simpa using htj
        have hdd : decide (t = j) = false := by simpa using htj
        have hF2 := Lib.hid (hF htj)
        clear hF
        have X1 := hx.mono ((Below.refl _ _).alloc (Nat.le_refl _) (Obj.cells #[.string sj] 22))
        have L1 := hl.mono ((Below.refl _ _).alloc (Nat.le_refl _) (Obj.cells #[.string sj] 22))
        have Y1 := hy.mono ((Below.refl _ _).alloc (Nat.le_refl _) (Obj.cells #[.string sj] 22))
        have Z1 := hz.mono ((Below.refl _ _).alloc (Nat.le_refl _) (Obj.cells #[.string sj] 22))
        have hB1 := hB.alloc hB.size (Obj.cells #[.string sj] 22)
        have x0 := hx.bx.c0; have x4 := hx.bx.lt; have l0 := hl.c0; have l4 := hl.lt
        have y0 := X1.bx.f0
        rw [hlen] at x0
        have ho1 := X1.own
        rw [hlen] at ho1
        have HX := Lib.hid X1; have HL := Lib.hid L1; have HY := Lib.hid Y1; have HZ := Lib.hid Z1; have HB := Lib.hid hB1
        clear hx hl hy hz X1 L1 Y1 Z1 hB1 hB
        go_wp2_with (first | (at_builtin; refine wpList_append_row rfl (.tmp 29) (.tmp 31) rfl (w.heap.size + 3 + 1) _ t ((List.range t).map f) hlen (by simp [Act.eval, Act.put]) ho1 (by omega) (by simp; omega) wr.heap.size sj (by simp [Act.eval, Act.put]) (by go_cell) ?_; intro g cap w9 hown9 hb9; refine Hid.out ?_) | fail)
        have hown9' : w9.ownsRow (w.heap.size + 3 + 1) 22 1 (.slice (some ⟨g, 0, none⟩) (((List.range t).map f).length + 1) cap) (((List.range t).map f).length + 1) (strCells (((List.range t).map f) ++ [sj])) := by rw [hlen]; exact hown9
        have N := HX.out.next hown9' hb9
        rw [hlen, hF2.out, range_snoc] at N
        have q0 := (HX.out.bx.low hb9 (Nat.lt_succ_self _)).c0; have q1 := (HX.out.bx.low hb9 (Nat.lt_succ_self _)).f0; have q2 := (HX.out.bx.low hb9 (Nat.lt_succ_self _)).lt
        have L9 := (HL.out.low hb9 (by omega)).set (g := w.heap.size + 3) (by omega) 0 (.slice (some ⟨g, 0, none⟩) (t + 1) cap)
        have Y9 := (HY.out.low hb9 (by omega)).set (g := w.heap.size + 3) (by omega) 0 (.slice (some ⟨g, 0, none⟩) (t + 1) cap)
        have Z9 := (HZ.out.low hb9 (by omega)).set (g := w.heap.size + 3) (by omega) 0 (.slice (some ⟨g, 0, none⟩) (t + 1) cap)
        have B9 := ((HB.out.trans (hb9.mono (by omega))).setCell (p := ⟨w.heap.size + 3, 0, none⟩) (by dsimp only; omega) (.slice (some ⟨g, 0, none⟩) (t + 1) cap))
        have HN := Lib.hid N; have HL9 := Lib.hid L9; have HY9 := Lib.hid Y9; have HZ9 := Lib.hid Z9; have HB9 := Lib.hid B9
        clear N L9 Y9 Z9 B9 hown9 hown9' hb9 ho1
        refine Lib.hid ?_
        go_wp2
        go_roundw
        case rel => exact ⟨t + 1, _, cap, by omega, by go_num, HL9.out, HY9.out, HZ9.out, HN.out, HB9.out⟩
        case measure => simp [intOf]; omega
    · have htn : t = l.length := by omega
      subst htn
      have hlen := range_len f l.length
      have l0 := hl.c0; have l4 := hl.lt; have y0 := hy.c0; have y1 := hy.c1; have y4 := hy.lt
      have z00 := hz.c0; have z1 := hz.c1; have z2 := hz.f0; have z3 := hz.f1; have z4 := hz.lt
      have KST : ∀ W, Below wr.heap.size wr W → (((W.cell? ⟨w.heap.size, 0, none⟩ = some (.slice (some ⟨b0, off0, none⟩) l.length c) ∧ W.cell? ⟨b0, off0 + j, none⟩ = some (.string lj)) ∧ W.cell? ⟨w.heap.size + 1, 0, none⟩ = some (.slice bo l.length d) ∧ W.cell? ⟨w.heap.size + 1, 1, none⟩ = some (.string k2)) ∧ W.cell? ⟨w.heap.size + 3, 0, none⟩ = some (.slice a2 l.length c2) ∧ W.cell? ⟨w.heap.size + 3, 1, none⟩ = some (.string k)) := fun W hW =>
        ⟨⟨⟨(hl.mono hW).c0, (hW.cell (p := ⟨b0, off0 + j, none⟩) (Nat.lt_of_lt_of_le hb0 hB.size)).trans ((hB.cell (p := ⟨b0, off0 + j, none⟩) hb0).trans hc0)⟩, (hy.mono hW).c0, (hy.mono hW).c1⟩, by have := (hx.mono hW).bx.c0; rwa [hlen] at this, (hx.mono hW).bx.c1⟩
      have HST2 := Lib.hid KST
      have hj0 : (0 : Int) ≤ (j : Int) := by omega
      have hj1 : (j : Int) < (l.length : Int) := by omega
      have ro : SRow wr a2 c2 ((List.range l.length).map f) := (OutRet.row (by rw [hlen]; have := hx.own; rwa [hlen] at this)).1
      rw [HST.out] at ro
      have HRO := Lib.hid ro; have HZ := Lib.hid hz; have HB := Lib.hid hB
      clear KST hx hz hB hl hy ro
      go_wp2_with fail
      have hD : Below wr.heap.size wr wr.drew := (Below.refl _ _).drew
      refine wp_region_hot (fun j => j == 9) (fun w' => (((w'.cell? ⟨w.heap.size, 0, none⟩ = some (.slice (some ⟨b0, off0, none⟩) l.length c) ∧ w'.cell? ⟨b0, off0 + j, none⟩ = some (.string lj)) ∧ w'.cell? ⟨w.heap.size + 1, 0, none⟩ = some (.slice bo l.length d) ∧ w'.cell? ⟨w.heap.size + 1, 1, none⟩ = some (.string k2)) ∧ w'.cell? ⟨w.heap.size + 3, 0, none⟩ = some (.slice a2 l.length c2) ∧ w'.cell? ⟨w.heap.size + 3, 1, none⟩ = some (.string k))) (by kernel_rfl) (HST2.out _ hD) (fun hHeld => ?_)
      refine hot_take (i := 0) (oi := { dst := some 34, op := Op.load 27 (Operand.tmp 7), type := 27, pos := "ref.go:130", after := #[], guard := none }) (v := ?v0) rfl (by kernel_rfl) (by kernel_rfl) (by kernel_rfl) rfl (by kernel_rfl) (by kernel_rfl) (fun _ _ _ h => h) (Or.inl ⟨by rfl, ?h0⟩) (by assumption) ?r0
      case h0 => (intro w hSw; (try dsimp only at hSw); go_simp; try with_reducible rfl)
      (try simp only [Act.put, List.setIfInBounds_toArray, List.set_cons_zero, List.set_cons_succ])
      refine hot_take (i := 1) (oi := { dst := some 35, op := Op.load 27 (Operand.tmp 5), type := 27, pos := "ref.go:130", after := #[], guard := none }) (v := ?v1) rfl (by kernel_rfl) (by kernel_rfl) (by kernel_rfl) rfl (by kernel_rfl) (by kernel_rfl) (fun _ _ _ h => h) (Or.inl ⟨by rfl, ?h1⟩) (by assumption) ?r1
      case h1 => (intro w hSw; (try dsimp only at hSw); go_simp; try with_reducible rfl)
      (try simp only [Act.put, List.setIfInBounds_toArray, List.set_cons_zero, List.set_cons_succ])
      refine hot_take (i := 2) (oi := { dst := some 36, op := Op.fieldAddr 27 (Operand.tmp 3) 0, type := 0, pos := "ref.go:130", after := #[], guard := none }) (v := ?v2) rfl (by kernel_rfl) (by kernel_rfl) (by kernel_rfl) rfl (by kernel_rfl) (by kernel_rfl) (fun _ _ _ h => h) (Or.inl ⟨by rfl, ?h2⟩) (by assumption) ?r2
      case h2 => (intro w hSw; (try dsimp only at hSw); go_simp; try with_reducible rfl)
      (try simp only [Act.put, List.setIfInBounds_toArray, List.set_cons_zero, List.set_cons_succ])
      refine hot_take (i := 3) (oi := { dst := some 37, op := Op.load 25 (Operand.tmp 36), type := 25, pos := "ref.go:130", after := #[{ on := 2, ground := Ground.data }], guard := none }) (v := ?v3) rfl (by kernel_rfl) (by kernel_rfl) (by kernel_rfl) rfl (by kernel_rfl) (by kernel_rfl) (fun _ _ _ h => h) (Or.inl ⟨by rfl, ?h3⟩) (by assumption) ?r3
      case h3 => (intro w hSw; (try dsimp only at hSw); go_simp; try with_reducible rfl)
      (try simp only [Act.put, List.setIfInBounds_toArray, List.set_cons_zero, List.set_cons_succ])
      refine hot_take (i := 4) (oi := { dst := some 38, op := Op.move (Operand.tmp 1), type := 3, pos := "ref.go:130", after := #[], guard := none }) (v := ?v4) rfl (by kernel_rfl) (by kernel_rfl) (by kernel_rfl) rfl (by kernel_rfl) (by kernel_rfl) (fun _ _ _ h => h) (Or.inl ⟨by rfl, ?h4⟩) (by assumption) ?r4
      case h4 => (intro w hSw; (try dsimp only at hSw); go_simp; try with_reducible rfl)
      (try simp only [Act.put, List.setIfInBounds_toArray, List.set_cons_zero, List.set_cons_succ])
      refine hot_take (i := 5) (oi := { dst := some 39, op := Op.indexAddr 25 (Operand.tmp 37) (Operand.tmp 38), type := 0, pos := "ref.go:130", after := #[{ on := 3, ground := Ground.data }, { on := 4, ground := Ground.data }], guard := none }) (v := ?v5) rfl (by kernel_rfl) (by kernel_rfl) (by kernel_rfl) rfl (by kernel_rfl) (by kernel_rfl) (fun _ _ _ h => h) (Or.inl ⟨by rfl, ?h5⟩) (by assumption) ?r5
      case h5 => (intro w hSw; (try dsimp only at hSw); go_simp; try with_reducible rfl)
      (try simp only [Act.put, List.setIfInBounds_toArray, List.set_cons_zero, List.set_cons_succ])
      refine hot_take (i := 6) (oi := { dst := some 40, op := Op.load 22 (Operand.tmp 39), type := 22, pos := "ref.go:130", after := #[{ on := 5, ground := Ground.data }], guard := none }) (v := ?v6) rfl (by kernel_rfl) (by kernel_rfl) (by kernel_rfl) rfl (by kernel_rfl) (by kernel_rfl) (fun _ _ _ h => h) (Or.inl ⟨by rfl, ?h6⟩) (by assumption) ?r6
      case h6 => (intro w hSw; (try dsimp only at hSw); go_simp; try with_reducible rfl)
      (try simp only [Act.put, List.setIfInBounds_toArray, List.set_cons_zero, List.set_cons_succ])
      refine hot_one (i := 7) (oi := { dst := some 41, op := Op.call { callee := Callee.value (Operand.func 69), args := #[Operand.tmp 35, Operand.tmp 40], argTypes := #[27, 22] }, type := 27, pos := "ref.go:130", after := #[{ on := 1, ground := Ground.data }, { on := 6, ground := Ground.data }], guard := none }) rfl (by kernel_rfl) (fun K hK => ?_)
      go_simp
      go_wp2_with (go_at_call 69; refine (KT.out _ (HB.out.drew)).mono ?_; rintro e v1 ⟨a3, c3, rfl, ho3, hc1⟩)
      have hB1 : Below wr.heap.size wr v1 := Below.chain hD hc1
      have r3 : SRow v1 a3 c3 mt := (OutRet.row (by rw [HML.out]; exact ho3)).1
      have hHeld := HST2.out _ hB1
      refine hK.out _ _ (fun _ => hHeld) ?_
      clear hK K ho3
      (try simp only [Act.put, List.setIfInBounds_toArray, List.set_cons_zero, List.set_cons_succ])
      refine hot_one (i := 8) (oi := { dst := some 42, op := Op.call { callee := Callee.value (Operand.func 57), args := #[Operand.tmp 34, Operand.tmp 41], argTypes := #[27, 27] }, type := 27, pos := "ref.go:130", after := #[{ on := 0, ground := Ground.data }, { on := 7, ground := Ground.data }, { on := 7, ground := Ground.chain }], guard := none }) rfl (by kernel_rfl) (fun K hK => ?_)
      go_simp
      go_wp2_with (go_at_call 57; refine (KP.out _ _ _ _ _ (HRO.out.mono hB1) r3).mono ?_; rintro e v2 ⟨a4, c4, rfl, ho4, hc2⟩)
      have hB2 : Below wr.heap.size wr v2 := Below.chain hB1 hc2
      have hHeld := HST2.out _ hB2
      refine hK.out _ _ (fun _ => hHeld) ?_
      clear hK K r3
      (try simp only [Act.put, List.setIfInBounds_toArray, List.set_cons_zero, List.set_cons_succ])
      have Z4 : Bx2 v2 (w.heap.size + 1 + 1) (.slice none 0 0) (.string ⟨#[]⟩) := HZ.out.mono hB2
      have z0' := Z4.c0; have z1' := Z4.c1; have z2' := Z4.f0; have z3' := Z4.f1; have z4' := Z4.lt
      refine hot_one (i := 9) (oi := { dst := none, op := Op.store 27 (Operand.tmp 6) (Operand.tmp 42), type := 0, pos := "ref.go:130", after := #[{ on := 8, ground := Ground.data }, { on := 8, ground := Ground.chain }, { on := 0, ground := Ground.phase }, { on := 1, ground := Ground.phase }, { on := 2, ground := Ground.phase }, { on := 3, ground := Ground.phase }, { on := 4, ground := Ground.phase }, { on := 5, ground := Ground.phase }, { on := 6, ground := Ground.phase }, { on := 7, ground := Ground.phase }, { on := 8, ground := Ground.phase }], guard := none }) rfl (by kernel_rfl) (fun K hK => ?_)
      go_simp
      refine hK.out _ _ (fun h => by cases h) ?_
      clear hK K
      refine hot_done (by kernel_rfl) ?_ _
      have q := box2 Z4.c0 Z4.c1 (.slice a4 l.length c4) (.string (addT k kt))
      have HBB := Lib.hid (below2 (p := w.heap.size + 1 + 1) (Below.chain HB.out hB2) (by omega) (.slice a4 l.length c4) (.string (addT k kt)))
      have hs5 : w.heap.size + 3 ≤ v1.heap.size + 3 := by have := hB1.size; have := HB.out.size; omega
      have ho5 := ownsRow_setCell_below (ownsRow_setCell_below (owns_base ho4 hs5) (a := ⟨w.heap.size + 1 + 1, 0, none⟩) (by dsimp only; omega) (.slice a4 l.length c4)) (a := ⟨w.heap.size + 1 + 1, 1, none⟩) (by dsimp only; omega) (.string (addT k kt))
      have HO := Lib.hid ho5
      obtain ⟨q1, q2⟩ := q
      clear ho4 ho5
      go_wp2
      refine bodyPost_ret (v := .agg #[.slice a4 l.length c4, .string (addT k kt)]) (by simp [results, Tryz.results73, go_sem, q1, q2]) rfl ?_
      exact ⟨a4, c4, by rw [HZL.out], by rw [HZL.out]; exact HO.out, HBB.out⟩
end Go.Proofs.YtjobmkdaaionlaaGreatDoor

/-
  linear: the reference's Substitute.
-/
set_option linter.unusedSimpArgs false
namespace Go.Proofs.YtjobmkdaaionlaaGreatDoor
open Go Go.Proofs Go.RowKit

theorem subAll_two (l : List ByteArray) (k : ByteArray) (i : Int) (m : List ByteArray) (k2 : ByteArray) : subAll l k i m k2 = if twoE l k m k2 = 0 then (if i < 0 ∨ (l.length : Int) ≤ i then .bad 6 else subO l k i.toNat m k2) else .bad (twoE l k m k2) := by
  unfold subAll twoE bothE
  by_cases h1 : linE l k = 0
  · by_cases h2 : linE m k2 = 0
    · by_cases h3 : l.length = m.length
      · simp [h1, h2, h3]
      · simp [h1, h2, h3]
    · simp [h1, h2]
  · simp [h1]

set_option maxRecDepth 20000 in
set_option maxHeartbeats 4000000 in
theorem refSubstitute (l : List ByteArray) (k : ByteArray) (ao : Option Addr) (c : Nat) (i : Int) (m : List ByteArray) (k2 : ByteArray) (bo : Option Addr) (d : Nat) (w : World)
    (hr : SRow w ao c l) (hz : ∀ s ∈ l ++ [k], s.size ≤ 800000) (hn : l.length ≤ 1000000) (hr2 : SRow w bo d m) (hz2 : ∀ s ∈ m ++ [k2], s.size ≤ 800000) (hn2 : m.length ≤ 1000000) :
    Calls Tryz.prog 35 #[.agg #[.slice ao l.length c, .string k], .int .i64 i, .agg #[.slice bo m.length d, .string k2]] w (LinRet w.heap.size (subAll l k i m k2) w) := by
  have CH := fun (W : World) (hW : Below w.heap.size w W) => refTwo l k ao c m k2 bo d W (hr.mono hW) (fun s hs => hz s (List.mem_append_left _ hs)) (hz k (by simp)) hn (hr2.mono hW) (fun s hs => hz2 s (List.mem_append_left _ hs)) (hz2 k2 (by simp)) hn2
  have hcs := twoE_cases l k m k2
  obtain ⟨X, Y, Z, B⟩ := entry3 w (.slice ao l.length c) (.string k) (.slice bo m.length d) (.string k2) (.slice none 0 0) (.string ⟨#[]⟩) 27
  have x0 := X.c0; have x1 := X.c1; have x4 := X.lt; have y0 := Y.c0; have y1 := Y.c1; have y4 := Y.lt
  rw [subAll_two]
  by_cases h0 : twoE l k m k2 = 0
  · rw [if_pos h0]
    obtain ⟨e1, e2, e3⟩ := twoE_zero h0
    obtain ⟨g1, g2⟩ := linE_zero e1
    obtain ⟨g3, g4⟩ := linE_zero e2
    rw [h0] at CH
    by_cases hi : i < 0 ∨ (l.length : Int) ≤ i
    · rw [if_pos hi]
      clear hr hz hn hr2 hz2 hn2 hcs h0 e1 e2 g2 g4 g1 g3
      generalize m.length = n2 at *
      generalize l.length = n at *
      have KH := Lib.hid CH; clear CH e3
      rcases hi with hi | hi
      · have hd : decide (i < 0) = true := by simpa using hi
        go_enter Tryz.func35, Tryz.ntmps35
        go_wp2_with (go_at_call 55; refine (KH.out _ B).mono ?_; rintro e w1 ⟨rfl, hb1⟩; refine Hid.out ?_)
        have Z1 := Z.mono hb1; have hB1 := Below.chain B hb1; have X1 := X.mono hb1
        have z0 := Z1.c0; have z1 := Z1.c1; have z2 := Z1.f0; have z3 := Z1.f1; have z4 := Z1.lt; have x0' := X1.c0; have x4' := X1.lt
        have q := box2 Z1.c0 Z1.c1 (.slice none 0 0) (.string ⟨#[]⟩)
        have HBB := Lib.hid (below2 (p := w.heap.size + 1 + 1) hB1 (by omega) (.slice none 0 0) (.string ⟨#[]⟩))
        clear hb1 X Y Z B Z1 hB1 x0 x1 x4 y0 y1 y4 X1
        refine Lib.hid ?_
        go_wp2
        obtain ⟨q1, q2⟩ := q
        refine bodyPost_ret (by simp [results, Tryz.results35, go_sem, q1, q2]; rfl) rfl ?_
        exact ⟨none, 0, rfl, RowB.nil _ _, HBB.out⟩
      · by_cases hi0 : i < 0
        · omega
        · have hd : decide (i < 0) = false := by simpa using hi0
          have hd2 : decide ((n : Int) ≤ i) = true := by simpa using hi
          go_enter Tryz.func35, Tryz.ntmps35
          go_wp2_with (go_at_call 55; refine (KH.out _ B).mono ?_; rintro e w1 ⟨rfl, hb1⟩; refine Hid.out ?_)
          have Z1 := Z.mono hb1; have hB1 := Below.chain B hb1; have X1 := X.mono hb1
          have z0 := Z1.c0; have z1 := Z1.c1; have z2 := Z1.f0; have z3 := Z1.f1; have z4 := Z1.lt; have x0' := X1.c0; have x4' := X1.lt
          have q := box2 Z1.c0 Z1.c1 (.slice none 0 0) (.string ⟨#[]⟩)
          have HBB := Lib.hid (below2 (p := w.heap.size + 1 + 1) hB1 (by omega) (.slice none 0 0) (.string ⟨#[]⟩))
          clear hb1 X Y Z B Z1 hB1 x0 x1 x4 y0 y1 y4 X1
          refine Lib.hid ?_
          go_wp2
          obtain ⟨q1, q2⟩ := q
          refine bodyPost_ret (by simp [results, Tryz.results35, go_sem, q1, q2]; rfl) rfl ?_
          exact ⟨none, 0, rfl, RowB.nil _ _, HBB.out⟩
    rw [if_neg hi]
    obtain ⟨j, rfl⟩ := Int.eq_ofNat_of_zero_le (show 0 ≤ i by omega)
    rw [Int.toNat_natCast]
    have hj : j < l.length := by omega
    clear hi
    have gm : ∀ s ∈ (List.zipWith addT (l.set j z0) (m.map fun s => mulT s (l.getD j ⟨#[]⟩))) ++ [addT k (mulT k2 (l.getD j ⟨#[]⟩))], Good (100 + (100 + 100) + 1) s := by
      have hgj : Good 100 (l.getD j ⟨#[]⟩) := by rw [getD_get l hj]; exact g2 _ (by simp)
      exact zip_good2 (set_good2 (by decide) g2 j) (map_good2 g4 hgj)
    have hlm : (List.zipWith addT (l.set j z0) (m.map fun s => mulT s (l.getD j ⟨#[]⟩))).length = l.length := by simp; omega
    have hsz := good_sizes (m := 100 + (100 + 100) + 1) (by decide) (by decide) gm
    have CT := fun (W : World) (hW : Below w.heap.size w W) => refPut l k ao c j m k2 bo d W (hr.mono hW) (hr2.mono hW) e3.symm (by omega) hj g2 g4
    unfold subO
    rw [← doneO_expr (m := 100 + (100 + 100) + 1) (by decide) gm (by rw [hlm]; exact g1)]
    have CD := fun (W : World) (a2 : Option Addr) (c2 Bd : Nat) (r : RowB Bd W a2 c2 (List.zipWith addT (l.set j z0) (m.map fun s => mulT s (l.getD j ⟨#[]⟩)))) => refDone (List.zipWith addT (l.set j z0) (m.map fun s => mulT s (l.getD j ⟨#[]⟩))) (addT k (mulT k2 (l.getD j ⟨#[]⟩))) a2 c2 Bd W r hsz.1 hsz.2 (by rw [hlm]; omega)
    clear hr hz hn hr2 hz2 hn2 hcs h0 g1 g2 g3 g4 gm hsz e1 e2 e3
    generalize doneO (List.zipWith addT (l.set j z0) (m.map fun s => mulT s (l.getD j ⟨#[]⟩))) (addT k (mulT k2 (l.getD j ⟨#[]⟩))) = O at *
    unfold OutRet at CT
    generalize (List.zipWith addT (l.set j z0) (m.map fun s => mulT s (l.getD j ⟨#[]⟩))) = l2 at *
    generalize addT k (mulT k2 (l.getD j ⟨#[]⟩)) = kk at *
    rw [hlm] at CT CD
    generalize l.length = n at *
    generalize m.length = n2 at *
    have KH := Lib.hid CH; have KT := Lib.hid CT; have KD := Lib.hid CD; have HLM := Lib.hid hlm; clear CH CT CD hlm
    have hd : decide ((j : Int) < 0) = false := by simp
    have hd2 : decide (n ≤ j) = false := by simpa using hj
    have hd3 : decide ((n : Int) ≤ (j : Int)) = false := by simpa using hj
    go_enter Tryz.func35, Tryz.ntmps35
    go_wp2_with (go_at_call 55; refine (KH.out _ B).mono ?_; rintro e w1 ⟨rfl, hb1⟩; refine Hid.out ?_)
    have X2 := X.mono hb1; have Y2 := Y.mono hb1; have Z2 := Z.mono hb1; have hB2 := Below.chain B hb1
    clear hb1 X Y Z B x0 x1 x4 y0 y1 y4
    have x0 := X2.c0; have x1 := X2.c1; have x4 := X2.lt; have y0 := Y2.c0; have y1 := Y2.c1; have y4 := Y2.lt
    refine Lib.hid ?_
    go_wp2_with (go_at_call 73; refine (KT.out _ hB2).mono ?_; rintro e w3 ⟨a3, c3, rfl, ho3, hb3⟩; refine Hid.out ?_)
    have Z3 := Z2.mono hb3; have hB3 := Below.chain hB2 hb3
    have hBd : w.heap.size + 3 ≤ w1.heap.size := by have := Z2.lt; omega
    have r3 : RowB (w1.heap.size + 3) w3 a3 c3 l2 := OutRet.row (by rw [HLM.out]; exact ho3)
    have HR3 := Lib.hid r3
    clear hb3 X2 Y2 Z2 hB2 x0 x1 x4 y0 y1 y4 ho3 r3
    refine Lib.hid ?_
    go_wp2_with (go_at_call 56; refine (KD.out _ a3 c3 _ HR3.out).mono ?_; rintro e w5 ⟨ae, ce, rfl, re, hb5⟩; refine Hid.out ?_)
    have Z5 := Z3.mono hb5; have hB5 := Below.chain hB3 hb5
    have z0 := Z5.c0; have z1 := Z5.c1; have z2 := Z5.f0; have z3 := Z5.f1; have z4 := Z5.lt
    have HR := Lib.hid ((re.set (p := w.heap.size + 1 + 1) (by omega) 0 (.slice ae O.l.length ce)).set (p := w.heap.size + 1 + 1) (by omega) 1 (.string O.k))
    have HBB := Lib.hid (below2 (p := w.heap.size + 1 + 1) hB5 (by omega) (.slice ae O.l.length ce) (.string O.k))
    have q := box2 Z5.c0 Z5.c1 (.slice ae O.l.length ce) (.string O.k)
    clear hb5 Z3 hB3 Z5 hB5 re
    refine Lib.hid ?_
    go_wp2
    obtain ⟨q1, q2⟩ := q
    refine bodyPost_ret (v := .tuple #[.agg #[.slice ae O.l.length ce, .string O.k], .int .i64 (O.e : Nat)]) (by simp [results, Tryz.results35, go_sem, q1, q2]) rfl ?_
    exact ⟨ae, ce, rfl, HR.out.lower (by omega), HBB.out⟩
  · rw [if_neg h0]
    clear hr hz hn hr2 hz2 hn2
    generalize l.length = n at *
    generalize m.length = n2 at *
    rcases hcs with h | h | h | h | h
    · exact absurd h h0
    all_goals
      rw [h] at CH ⊢
      clear h h0
      have KH := Lib.hid CH; clear CH
      go_enter Tryz.func35, Tryz.ntmps35
      go_wp2_with (go_at_call 55; refine (KH.out _ B).mono ?_; rintro e w1 ⟨rfl, hb1⟩; refine Hid.out ?_)
      have Z1 := Z.mono hb1; have hB1 := Below.chain B hb1; have X1 := X.mono hb1
      have z0 := Z1.c0; have z1 := Z1.c1; have z2 := Z1.f0; have z3 := Z1.f1; have z4 := Z1.lt; have x0' := X1.c0; have x4' := X1.lt
      have q := box2 Z1.c0 Z1.c1 (.slice none 0 0) (.string ⟨#[]⟩)
      have HBB := Lib.hid (below2 (p := w.heap.size + 1 + 1) hB1 (by omega) (.slice none 0 0) (.string ⟨#[]⟩))
      clear hb1 X Y Z B Z1 hB1 x0 x1 x4 y0 y1 y4 X1
      refine Lib.hid ?_
      go_wp2
      obtain ⟨q1, q2⟩ := q
      refine bodyPost_ret (by simp [results, Tryz.results35, go_sem, q1, q2]; rfl) rfl ?_
      exact ⟨none, 0, rfl, RowB.nil _ _, HBB.out⟩
end Go.Proofs.YtjobmkdaaionlaaGreatDoor
