import Derived.Test.YtjobmkdaaionlaaGreatDoorCut35
import Derived.Test.YtjobmkdaaionlaaGreatDoorCut30
import Derived.Test.YtjobmkdaaionlaaGreatDoorCut31

set_option linter.unusedVariables false
/-
  linear: the reference's Plus of expressions.
-/
set_option linter.unusedSimpArgs false
namespace Go.Proofs.YtjobmkdaaionlaaGreatDoor
open Go Go.Proofs Go.RowKit

set_option maxRecDepth 20000 in
set_option maxHeartbeats 4000000 in
theorem refPlusL (l : List ByteArray) (k : ByteArray) (ao : Option Addr) (c i : Nat) (m : List ByteArray) (k2 : ByteArray) (bo : Option Addr) (c3 i2 : Nat) (w : World) (hr : SRow w ao c l) (hr2 : SRow w bo c3 m) (hlm : m.length = l.length) (hn : l.length ≤ 1000)
    (hg : ∀ s ∈ l ++ [k], Good i s) (hg2 : ∀ s ∈ m ++ [k2], Good i2 s) (hi : 0 < i) (hi2 : 0 < i2) (hik : i ≤ 20000) (hik2 : i2 ≤ 20000) :
    Calls Tryz.prog 57 #[.agg #[.slice ao l.length c, .string k], .agg #[.slice bo m.length c3, .string k2]] w (OutRet (w.heap.size + 3) (List.zipWith addT l m) (addT k k2) w) := by
  have CK := fun W => plusG (hg k (by simp)) (hg2 k2 (by simp)) hi hi2 hik hik2 W
  have CE : ∀ (j : Nat) (hj : j < l.length) (W : World), Calls Tryz.prog 84 #[.string (l[j]'hj), .string (m[j]'(by omega))] W (Bret (.string (addT (l.getD j ⟨#[]⟩) (m.getD j ⟨#[]⟩))) W) := fun j hj W => by
    rw [getD_get l hj, getD_get m (by omega)]
    exact plusG (hg _ (List.mem_append_left _ (List.getElem_mem hj))) (hg2 _ (List.mem_append_left _ (List.getElem_mem (by omega)))) hi hi2 hik hik2 W
  rw [← zip_range_getD l m addT hlm.symm]
  generalize hf : (fun j => addT (l.getD j ⟨#[]⟩) (m.getD j ⟨#[]⟩)) = f
  have CE' : ∀ (j : Nat) (hj : j < l.length) (W : World), Calls Tryz.prog 84 #[.string (l[j]'hj), .string (m[j]'(by omega))] W (Bret (.string (f j)) W) := fun j hj W => by subst hf; exact CE j hj W
  have hrow : ∀ W, Below w.heap.size w W → ∀ j (hj : j < l.length), ∃ b off, ao = some ⟨b, off, none⟩ ∧ b < W.heap.size ∧ W.cell? ⟨b, off + j, none⟩ = some (.string (l[j]'hj)) := fun W hW => (hr.mono hW).get
  have hrow2 : ∀ W, Below w.heap.size w W → ∀ j (hj : j < m.length), ∃ b off, bo = some ⟨b, off, none⟩ ∧ b < W.heap.size ∧ W.cell? ⟨b, off + j, none⟩ = some (.string (m[j]'hj)) := fun W hW => (hr2.mono hW).get
  rw [hlm]
  obtain ⟨X0, Y0, Z0, B0⟩ := entry3 w (.slice ao l.length c) (.string k) (.slice bo l.length c3) (.string k2) (.slice none 0 0) (.string ⟨#[]⟩) 27
  have HROW := Lib.hid hrow; have HROW2 := Lib.hid hrow2; have KK := Lib.hid CK; have KE := Lib.hid CE'; have HLM := Lib.hid hlm
  clear hrow hrow2 CK CE CE' hr hr2 hg hg2 hf
  generalize addT k k2 = y at *
  go_enter Tryz.func57, Tryz.ntmps57
  have x0 := X0.c0; have x1 := X0.c1; have x4 := X0.lt; have y0 := Y0.c0; have y1 := Y0.c1; have y4 := Y0.lt
  go_wp2_with (go_at_call 84; refine (KK.out _).mono ?_; rintro e w1 ⟨rfl, hb1⟩; refine Hid.out ?_)
  have X1 := X0.mono hb1; have Y1 := Y0.mono hb1; have Z1 := Z0.mono hb1; have B1 := Below.chain B0 hb1
  have hb5 : w.heap.size + 3 ≤ w1.heap.size := by have := Z1.lt; omega
  clear hb1 x0 x1 x4 y0 y1 y4 X0 Y0 Z0 B0
  refine Lib.hid ?_
  go_wp2_with fail
  have N1 := nb (Below.refl w1.heap.size w1) (Obj.cells #[.slice none 0 0, .string y] 27)
  have X2 := X1.mono N1; have Y2 := Y1.mono N1; have Z2 := Z1.mono N1; have B2 := Below.chain B1 N1
  have O2 := OutL.new w1 y 27
  clear X1 Y1 Z1 B1 N1
  generalize w1.alloc (Obj.cells #[.slice none 0 0, .string y] 27) = W2 at *
  generalize hb : w1.heap.size = b5 at *
  clear hb
  go_loopw [6] (fun iv wr => ∃ (j : Nat) (a2 : Option Addr) (c2 : Nat), j ≤ l.length ∧ iv = .int .i64 (j : Int) ∧ Bx2 wr w.heap.size (.slice ao l.length c) (.string k) ∧ Bx2 wr (w.heap.size + 1) (.slice bo l.length c3) (.string k2) ∧ Bx2 wr (w.heap.size + 1 + 1) (.slice none 0 0) (.string ⟨#[]⟩) ∧ OutL wr b5 a2 c2 ((List.range j).map f) y ∧ Below w.heap.size w wr) (fun iv _ => l.length - (intOf iv).toNat)
  case atStart => exact ⟨0, none, 0, Nat.zero_le _, rfl, X2, Y2, Z2, O2, B2⟩
  case round =>
    obtain ⟨j, a2, c2, hj, rfl, hx, hy, hz, ho, hB⟩ := hrel
    clear X2 Y2 Z2 O2 B2
    by_cases hlt : j < l.length
    · have hlt2 : j < m.length := by rw [HLM.out]; exact hlt
      obtain ⟨b, off, rfl, hbw, -⟩ := HROW.out w (Below.refl _ _) j hlt
      obtain ⟨b', off', e', hbl, hcl⟩ := HROW.out wr hB j hlt
      cases e'
      obtain ⟨bb, off2, rfl, hbw2, -⟩ := HROW2.out w (Below.refl _ _) j hlt2
      obtain ⟨b', off', e', hbl2, hcl2⟩ := HROW2.out wr hB j hlt2
      cases e'
      have CA := KE.out j hlt
      have hlen := range_len f j
      generalize l[j]'hlt = sj at *
      generalize m[j]'hlt2 = tj at *
      have hj0 : (0 : Int) ≤ (j : Int) := by omega
      have hj1 : (j : Int) < (l.length : Int) := by omega
      have x0 := hx.c0; have x4 := hx.lt
      have KCA := Lib.hid CA
      have KST : ∀ W, Below wr.heap.size wr W → ((((W.cell? ⟨w.heap.size, 0, none⟩ = some (.slice (some ⟨b, off, none⟩) l.length c) ∧ W.cell? ⟨b, off + j, none⟩ = some (.string sj)) ∧ W.cell? ⟨w.heap.size + 1, 0, none⟩ = some (.slice (some ⟨bb, off2, none⟩) l.length c3)) ∧ W.cell? ⟨bb, off2 + j, none⟩ = some (.string tj)) ∧ W.cell? ⟨b5, 0, none⟩ = some (.slice a2 j c2)) := fun W hW => ⟨⟨⟨⟨(hx.mono hW).c0, (hW.cell (p := ⟨b, off + j, none⟩) hbl).trans hcl⟩, (hy.mono hW).c0⟩, (hW.cell (p := ⟨bb, off2 + j, none⟩) hbl2).trans hcl2⟩, by have := (ho.mono hW).bx.c0; rwa [hlen] at this⟩
      have HST := Lib.hid KST
      have KS9 : ∀ W W', Below wr.heap.size wr W → Below (b5 + 1) W W' → ((((W'.cell? ⟨w.heap.size, 0, none⟩ = some (.slice (some ⟨b, off, none⟩) l.length c) ∧ W'.cell? ⟨b, off + j, none⟩ = some (.string sj)) ∧ W'.cell? ⟨w.heap.size + 1, 0, none⟩ = some (.slice (some ⟨bb, off2, none⟩) l.length c3)) ∧ W'.cell? ⟨bb, off2 + j, none⟩ = some (.string tj)) ∧ W'.cell? ⟨b5, 0, none⟩ = some (.slice a2 j c2)) := fun W W' hW h9 => by
        obtain ⟨⟨⟨⟨h1, h2⟩, h4⟩, h5⟩, h3⟩ := KST W hW
        exact ⟨⟨⟨⟨(h9.cell (p := ⟨w.heap.size, 0, none⟩) (by dsimp only; omega)).trans h1, (h9.cell (p := ⟨b, off + j, none⟩) (by dsimp only; omega)).trans h2⟩, (h9.cell (p := ⟨w.heap.size + 1, 0, none⟩) (by dsimp only; omega)).trans h4⟩, (h9.cell (p := ⟨bb, off2 + j, none⟩) (by dsimp only; omega)).trans h5⟩, (h9.cell (p := ⟨b5, 0, none⟩) (by dsimp only; omega)).trans h3⟩
      have HS9 := Lib.hid KS9
      have KOW : ∀ W, Below wr.heap.size wr W → W.ownsRow (b5 + 1) 22 1 (.slice a2 j c2) j (strCells ((List.range j).map f)) := fun W hW => by have := (ho.mono hW).own; rwa [hlen] at this
      have HOW := Lib.hid KOW
      have hbs : b5 + 1 ≤ wr.heap.size := ho.bx.lt
      have HX := Lib.hid hx; have HY := Lib.hid hy; have HZ := Lib.hid hz; have HO := Lib.hid ho; have HB := Lib.hid hB
      clear CA KST KS9 KOW hx hy hz ho hB hcl hcl2
      go_wp2_with fail
      have hD : Below wr.heap.size wr wr.drew := (Below.refl _ _).drew
      clear x0 x4
      refine wp_region_hot (fun j => j == 16) (fun w' => ((((w'.cell? ⟨w.heap.size, 0, none⟩ = some (.slice (some ⟨b, off, none⟩) l.length c) ∧ w'.cell? ⟨b, off + j, none⟩ = some (.string sj)) ∧ w'.cell? ⟨w.heap.size + 1, 0, none⟩ = some (.slice (some ⟨bb, off2, none⟩) l.length c3)) ∧ w'.cell? ⟨bb, off2 + j, none⟩ = some (.string tj)) ∧ w'.cell? ⟨b5, 0, none⟩ = some (.slice a2 j c2))) (by kernel_rfl) (HST.out _ hD) (fun hHeld => ?_)
      refine hot_take (i := 0) (oi := { dst := some 20, op := Op.fieldAddr 27 (Operand.tmp 5) 0, type := 0, pos := "ref.go:97", after := #[], guard := none }) (v := ?v0) rfl (by kernel_rfl) (by kernel_rfl) (by kernel_rfl) rfl (by kernel_rfl) (by kernel_rfl) (fun _ _ _ h => h) (Or.inl ⟨by rfl, ?h0⟩) (by assumption) ?r0
      case h0 => (intro w hSw; (try dsimp only at hSw); go_simp; try with_reducible rfl)
      (try simp only [Act.put, List.setIfInBounds_toArray, List.set_cons_zero, List.set_cons_succ])
      refine hot_take (i := 1) (oi := { dst := some 21, op := Op.load 25 (Operand.tmp 20), type := 25, pos := "ref.go:97", after := #[{ on := 0, ground := Ground.data }], guard := none }) (v := ?v1) rfl (by kernel_rfl) (by kernel_rfl) (by kernel_rfl) rfl (by kernel_rfl) (by kernel_rfl) (fun _ _ _ h => h) (Or.inl ⟨by rfl, ?h1⟩) (by assumption) ?r1
      case h1 => (intro w hSw; (try dsimp only at hSw); go_simp; try with_reducible rfl)
      (try simp only [Act.put, List.setIfInBounds_toArray, List.set_cons_zero, List.set_cons_succ])
      refine hot_take (i := 2) (oi := { dst := some 22, op := Op.fieldAddr 27 (Operand.tmp 2) 0, type := 0, pos := "ref.go:97", after := #[], guard := none }) (v := ?v2) rfl (by kernel_rfl) (by kernel_rfl) (by kernel_rfl) rfl (by kernel_rfl) (by kernel_rfl) (fun _ _ _ h => h) (Or.inl ⟨by rfl, ?h2⟩) (by assumption) ?r2
      case h2 => (intro w hSw; (try dsimp only at hSw); go_simp; try with_reducible rfl)
      (try simp only [Act.put, List.setIfInBounds_toArray, List.set_cons_zero, List.set_cons_succ])
      refine hot_take (i := 3) (oi := { dst := some 23, op := Op.load 25 (Operand.tmp 22), type := 25, pos := "ref.go:97", after := #[{ on := 2, ground := Ground.data }], guard := none }) (v := ?v3) rfl (by kernel_rfl) (by kernel_rfl) (by kernel_rfl) rfl (by kernel_rfl) (by kernel_rfl) (fun _ _ _ h => h) (Or.inl ⟨by rfl, ?h3⟩) (by assumption) ?r3
      case h3 => (intro w hSw; (try dsimp only at hSw); go_simp; try with_reducible rfl)
      (try simp only [Act.put, List.setIfInBounds_toArray, List.set_cons_zero, List.set_cons_succ])
      refine hot_take (i := 4) (oi := { dst := some 24, op := Op.move (Operand.tmp 6), type := 3, pos := "ref.go:97", after := #[], guard := none }) (v := ?v4) rfl (by kernel_rfl) (by kernel_rfl) (by kernel_rfl) rfl (by kernel_rfl) (by kernel_rfl) (fun _ _ _ h => h) (Or.inl ⟨by rfl, ?h4⟩) (by assumption) ?r4
      case h4 => (intro w hSw; (try dsimp only at hSw); go_simp; try with_reducible rfl)
      (try simp only [Act.put, List.setIfInBounds_toArray, List.set_cons_zero, List.set_cons_succ])
      refine hot_take (i := 5) (oi := { dst := some 25, op := Op.indexAddr 25 (Operand.tmp 23) (Operand.tmp 24), type := 0, pos := "ref.go:97", after := #[{ on := 3, ground := Ground.data }, { on := 4, ground := Ground.data }], guard := none }) (v := ?v5) rfl (by kernel_rfl) (by kernel_rfl) (by kernel_rfl) rfl (by kernel_rfl) (by kernel_rfl) (fun _ _ _ h => h) (Or.inl ⟨by rfl, ?h5⟩) (by assumption) ?r5
      case h5 => (intro w hSw; (try dsimp only at hSw); go_simp; try with_reducible rfl)
      (try simp only [Act.put, List.setIfInBounds_toArray, List.set_cons_zero, List.set_cons_succ])
      refine hot_take (i := 6) (oi := { dst := some 26, op := Op.load 22 (Operand.tmp 25), type := 22, pos := "ref.go:97", after := #[{ on := 5, ground := Ground.data }], guard := none }) (v := ?v6) rfl (by kernel_rfl) (by kernel_rfl) (by kernel_rfl) rfl (by kernel_rfl) (by kernel_rfl) (fun _ _ _ h => h) (Or.inl ⟨by rfl, ?h6⟩) (by assumption) ?r6
      case h6 => (intro w hSw; (try dsimp only at hSw); go_simp; try with_reducible rfl)
      (try simp only [Act.put, List.setIfInBounds_toArray, List.set_cons_zero, List.set_cons_succ])
      refine hot_take (i := 7) (oi := { dst := some 27, op := Op.fieldAddr 27 (Operand.tmp 3) 0, type := 0, pos := "ref.go:97", after := #[], guard := none }) (v := ?v7) rfl (by kernel_rfl) (by kernel_rfl) (by kernel_rfl) rfl (by kernel_rfl) (by kernel_rfl) (fun _ _ _ h => h) (Or.inl ⟨by rfl, ?h7⟩) (by assumption) ?r7
      case h7 => (intro w hSw; (try dsimp only at hSw); go_simp; try with_reducible rfl)
      (try simp only [Act.put, List.setIfInBounds_toArray, List.set_cons_zero, List.set_cons_succ])
      refine hot_take (i := 8) (oi := { dst := some 28, op := Op.load 25 (Operand.tmp 27), type := 25, pos := "ref.go:97", after := #[{ on := 7, ground := Ground.data }], guard := none }) (v := ?v8) rfl (by kernel_rfl) (by kernel_rfl) (by kernel_rfl) rfl (by kernel_rfl) (by kernel_rfl) (fun _ _ _ h => h) (Or.inl ⟨by rfl, ?h8⟩) (by assumption) ?r8
      case h8 => (intro w hSw; (try dsimp only at hSw); go_simp; try with_reducible rfl)
      (try simp only [Act.put, List.setIfInBounds_toArray, List.set_cons_zero, List.set_cons_succ])
      refine hot_take (i := 9) (oi := { dst := some 29, op := Op.move (Operand.tmp 6), type := 3, pos := "ref.go:97", after := #[], guard := none }) (v := ?v9) rfl (by kernel_rfl) (by kernel_rfl) (by kernel_rfl) rfl (by kernel_rfl) (by kernel_rfl) (fun _ _ _ h => h) (Or.inl ⟨by rfl, ?h9⟩) (by assumption) ?r9
      case h9 => (intro w hSw; (try dsimp only at hSw); go_simp; try with_reducible rfl)
      (try simp only [Act.put, List.setIfInBounds_toArray, List.set_cons_zero, List.set_cons_succ])
      refine hot_take (i := 10) (oi := { dst := some 30, op := Op.indexAddr 25 (Operand.tmp 28) (Operand.tmp 29), type := 0, pos := "ref.go:97", after := #[{ on := 8, ground := Ground.data }, { on := 9, ground := Ground.data }], guard := none }) (v := ?v10) rfl (by kernel_rfl) (by kernel_rfl) (by kernel_rfl) rfl (by kernel_rfl) (by kernel_rfl) (fun _ _ _ h => h) (Or.inl ⟨by rfl, ?h10⟩) (by assumption) ?r10
      case h10 => (intro w hSw; (try dsimp only at hSw); go_simp; try with_reducible rfl)
      (try simp only [Act.put, List.setIfInBounds_toArray, List.set_cons_zero, List.set_cons_succ])
      refine hot_take (i := 11) (oi := { dst := some 31, op := Op.load 22 (Operand.tmp 30), type := 22, pos := "ref.go:97", after := #[{ on := 10, ground := Ground.data }], guard := none }) (v := ?v11) rfl (by kernel_rfl) (by kernel_rfl) (by kernel_rfl) rfl (by kernel_rfl) (by kernel_rfl) (fun _ _ _ h => h) (Or.inl ⟨by rfl, ?h11⟩) (by assumption) ?r11
      case h11 => (intro w hSw; (try dsimp only at hSw); go_simp; try with_reducible rfl)
      (try simp only [Act.put, List.setIfInBounds_toArray, List.set_cons_zero, List.set_cons_succ])
      refine hot_one (i := 12) (oi := { dst := some 32, op := Op.call { callee := Callee.value (Operand.func 84), args := #[Operand.tmp 26, Operand.tmp 31], argTypes := #[22, 22] }, type := 22, pos := "ref.go:97", after := #[{ on := 6, ground := Ground.data }, { on := 11, ground := Ground.data }], guard := none }) rfl (by kernel_rfl) (fun K hK => ?_)
      go_simp
      go_wp2_with (go_at_call 84; refine (KCA.out _).mono ?_; rintro e v1 ⟨rfl, hc1⟩)
      have hB1 : Below wr.heap.size wr v1 := Below.chain hD hc1
      have hHeld := HST.out _ hB1
      refine hK.out _ _ (fun _ => hHeld) ?_
      clear hK K
      (try simp only [Act.put, List.setIfInBounds_toArray, List.set_cons_zero, List.set_cons_succ])
      refine hot_one (i := 13) (oi := { dst := some 33, op := Op.buildSlice 25 1 #[(0, Operand.tmp 32)], type := 25, pos := "ref.go:97", after := #[{ on := 12, ground := Ground.data }], guard := none }) rfl (by kernel_rfl) (fun K hK => ?_)
      go_simp
      have hHeld := HST.out _ (nb hB1 (Obj.cells #[.string (f j)] 22))
      refine hK.out _ _ (fun _ => hHeld) ?_
      clear hK K
      (try simp only [Act.put, List.setIfInBounds_toArray, List.set_cons_zero, List.set_cons_succ])
      refine hot_one (i := 14) (oi := { dst := some 34, op := Op.call { callee := Callee.builtin Builtin.append, args := #[Operand.tmp 21, Operand.tmp 33], argTypes := #[25, 25] }, type := 25, pos := "ref.go:97", after := #[{ on := 1, ground := Ground.data }, { on := 13, ground := Ground.data }, { on := 12, ground := Ground.chain }], guard := none }) rfl (by kernel_rfl) (fun K hK => ?_)
      refine step_append_row rfl (.tmp 21) (.tmp 33) rfl (b5 + 1) _ j ((List.range j).map f) hlen (by simp [Act.eval, Act.put]) (HOW.out _ (nb hB1 _)) (by omega) (Nat.le_trans hbs (nb hB1 _).size) v1.heap.size (f j) (by simp [Act.eval, Act.put]) (allocN v1 _ _) ?_
      intro g cap w9 hown9 hb9
      have hHeld := HS9.out _ _ (nb hB1 (Obj.cells #[.string (f j)] 22)) hb9
      refine hK.out _ _ (fun _ => hHeld) ?_
      clear hK K
      (try simp only [Act.put, List.setIfInBounds_toArray, List.set_cons_zero, List.set_cons_succ])
      have q0 := ((HO.out.mono (nb hB1 _)).bx.low hb9 (Nat.lt_succ_self _)).c0
      have q1 := ((HO.out.mono (nb hB1 _)).bx.low hb9 (Nat.lt_succ_self _)).f0
      have q2 := ((HO.out.mono (nb hB1 _)).bx.low hb9 (Nat.lt_succ_self _)).lt
      refine hot_takeW (i := 15) (oi := { dst := some 35, op := Op.fieldAddr 27 (Operand.tmp 5) 0, type := 0, pos := "ref.go:97", after := #[{ on := 0, ground := Ground.phase }, { on := 1, ground := Ground.phase }, { on := 2, ground := Ground.phase }, { on := 3, ground := Ground.phase }, { on := 4, ground := Ground.phase }, { on := 5, ground := Ground.phase }, { on := 6, ground := Ground.phase }, { on := 7, ground := Ground.phase }, { on := 8, ground := Ground.phase }, { on := 9, ground := Ground.phase }, { on := 10, ground := Ground.phase }, { on := 11, ground := Ground.phase }, { on := 12, ground := Ground.phase }, { on := 13, ground := Ground.phase }, { on := 14, ground := Ground.phase }], guard := none }) (v := ?v15) rfl (by kernel_rfl) (by kernel_rfl) (by kernel_rfl) rfl (fun _ _ _ h => h) (Or.inl ⟨by rfl, ?h15⟩) (by assumption) ?r15
      case h15 => (intro w _; go_simp; try with_reducible rfl)
      (try simp only [Act.put, List.setIfInBounds_toArray, List.set_cons_zero, List.set_cons_succ])
      refine hot_one (i := 16) (oi := { dst := none, op := Op.store 25 (Operand.tmp 35) (Operand.tmp 34), type := 0, pos := "ref.go:97", after := #[{ on := 15, ground := Ground.data }, { on := 14, ground := Ground.data }, { on := 14, ground := Ground.chain }, { on := 0, ground := Ground.phase }, { on := 1, ground := Ground.phase }, { on := 2, ground := Ground.phase }, { on := 3, ground := Ground.phase }, { on := 4, ground := Ground.phase }, { on := 5, ground := Ground.phase }, { on := 6, ground := Ground.phase }, { on := 7, ground := Ground.phase }, { on := 8, ground := Ground.phase }, { on := 9, ground := Ground.phase }, { on := 10, ground := Ground.phase }, { on := 11, ground := Ground.phase }, { on := 12, ground := Ground.phase }, { on := 13, ground := Ground.phase }, { on := 14, ground := Ground.phase }], guard := none }) rfl (by kernel_rfl) (fun K hK => ?_)
      go_simp
      refine hK.out _ _ (fun h => by cases h) ?_
      clear hK K q0 q1 q2
      refine hot_done (by kernel_rfl) ?_ _
      have hown9' : w9.ownsRow (b5 + 1) 22 1 (.slice (some ⟨g, 0, none⟩) (((List.range j).map f).length + 1) cap) (((List.range j).map f).length + 1) (strCells (((List.range j).map f) ++ [f j])) := by rw [hlen]; exact hown9
      have N := (HO.out.mono (nb hB1 _)).next hown9' hb9
      rw [hlen, range_snoc] at N
      have X9 := ((HX.out.mono (nb hB1 _)).low hb9 (by omega)).set (g := b5) (by omega) 0 (.slice (some ⟨g, 0, none⟩) (j + 1) cap)
      have Y9 := ((HY.out.mono (nb hB1 _)).low hb9 (by omega)).set (g := b5) (by omega) 0 (.slice (some ⟨g, 0, none⟩) (j + 1) cap)
      have Z9 := ((HZ.out.mono (nb hB1 _)).low hb9 (by omega)).set (g := b5) (by omega) 0 (.slice (some ⟨g, 0, none⟩) (j + 1) cap)
      have B9 := (((Below.chain HB.out (nb hB1 _)).trans (hb9.mono (by omega))).setCell (p := ⟨b5, 0, none⟩) (by dsimp only; omega) (.slice (some ⟨g, 0, none⟩) (j + 1) cap))
      have HN := Lib.hid N; have HX9 := Lib.hid X9; have HY9 := Lib.hid Y9; have HZ9 := Lib.hid Z9; have HB9 := Lib.hid B9
      clear N X9 Y9 Z9 B9 hown9 hown9' hb9
      go_wp2
      go_roundw
      case rel => exact ⟨j + 1, _, cap, by omega, by go_num, HX9.out, HY9.out, HZ9.out, HN.out, HB9.out⟩
      case measure => simp [intOf]; omega
    · have hjn : j = l.length := by omega
      subst hjn
      have hlen := range_len f l.length
      have x0 := ho.bx.c0; have x1 := ho.bx.c1; have x2 := ho.bx.f0; have x3 := ho.bx.f1; have x4 := ho.bx.lt
      have y0 := hx.c0; have y4 := hx.lt
      have z0' := hz.c0; have z1 := hz.c1; have z2 := hz.f0; have z3 := hz.f1; have z4 := hz.lt
      have q := box2 hz.c0 hz.c1 (.slice a2 l.length c2) (.string y)
      have HBB := Lib.hid (below2 (p := w.heap.size + 1 + 1) hB (by omega) (.slice a2 l.length c2) (.string y))
      have ho2 := ownsRow_setCell_below (ownsRow_setCell_below ho.own (a := ⟨w.heap.size + 1 + 1, 0, none⟩) (by dsimp only; omega) (.slice a2 l.length c2)) (a := ⟨w.heap.size + 1 + 1, 1, none⟩) (by dsimp only; omega) (.string y)
      rw [hlen] at ho2 x0
      have HO := Lib.hid ho2
      obtain ⟨q1, q2⟩ := q
      clear ho2 ho hx hy hz hB
      go_wp2
      refine bodyPost_ret (v := .agg #[.slice a2 l.length c2, .string y]) (by simp [results, Tryz.results57, go_sem, q1, q2]) rfl ?_
      exact ⟨a2, c2, by rw [hlen], by rw [hlen]; exact owns_base HO.out (by omega), HBB.out⟩
end Go.Proofs.YtjobmkdaaionlaaGreatDoor

/-
  linear: the reference's done, two, Add, Scale.
-/
set_option linter.unusedSimpArgs false
namespace Go.Proofs.YtjobmkdaaionlaaGreatDoor
open Go Go.Proofs Go.RowKit

def doneO (l : List ByteArray) (k : ByteArray) : LOut := if linE l k = 0 then ⟨l, k, 0⟩ else .bad 10

set_option maxHeartbeats 2000000 in
theorem refDone (l : List ByteArray) (k : ByteArray) (ao : Option Addr) (c Bd : Nat) (w : World) (hr : RowB Bd w ao c l) (hz : ∀ s ∈ l, s.size ≤ 800000) (hk : k.size ≤ 800000) (hn : l.length ≤ 1000000) :
    Calls Tryz.prog 56 #[.agg #[.slice ao l.length c, .string k]] w (LinRet Bd (doneO l k) w) := by
  have CC := fun (W : World) (hW : Below w.heap.size w W) => refLinCheck l k ao c W (hr.1.mono hW) hz hk hn
  have hcs := linE_cases l k
  obtain ⟨X, Z, B⟩ := entryAB w (.slice ao l.length c) (.string k) (.slice none 0 0) (.string ⟨#[]⟩) 27
  have HR := Lib.hid hr
  unfold doneO
  clear hz hk hn hr
  by_cases h0 : linE l k = 0
  · rw [if_pos h0]
    rw [h0] at CC
    have KC := Lib.hid CC; clear CC hcs h0
    have x0 := X.c0; have x1 := X.c1; have x4 := X.lt
    go_enter Tryz.func56, Tryz.ntmps56
    go_wp2_with (go_at_call 27; refine (KC.out _ B).mono ?_; rintro e w1 ⟨rfl, hb1⟩; refine Hid.out ?_)
    have X1 := X.mono hb1; have Z1 := Z.mono hb1; have B1 := Below.chain B hb1
    clear hb1 X Z B x0 x1 x4
    have x0 := X1.c0; have x1 := X1.c1; have x4 := X1.lt
    have z0' := Z1.c0; have z1 := Z1.c1; have z2 := Z1.f0; have z3 := Z1.f1; have z4 := Z1.lt
    have q := box2 Z1.c0 Z1.c1 (.slice ao l.length c) (.string k)
    have HBB := Lib.hid (below2 (p := w.heap.size + 1) B1 (by omega) (.slice ao l.length c) (.string k))
    clear X1 Z1 B1
    refine Lib.hid ?_
    go_wp2
    obtain ⟨q1, q2⟩ := q
    refine bodyPost_ret (v := .tuple #[.agg #[.slice ao l.length c, .string k], .int .i64 0]) (by simp [results, Tryz.results56, go_sem, q1, q2]) rfl ?_
    exact ⟨ao, c, rfl, HR.out.mono HBB.out, HBB.out⟩
  · rw [if_neg h0]
    rcases hcs with h | h | h | h
    · exact absurd h h0
    all_goals
      rw [h] at CC
      clear h h0
      have KC := Lib.hid CC; clear CC
      have x0 := X.c0; have x1 := X.c1; have x4 := X.lt
      go_enter Tryz.func56, Tryz.ntmps56
      go_wp2_with (go_at_call 27; refine (KC.out _ B).mono ?_; rintro e w1 ⟨rfl, hb1⟩; refine Hid.out ?_)
      have Z1 := Z.mono hb1; have B1 := Below.chain B hb1
      clear hb1 X Z B x0 x1 x4
      have z0' := Z1.c0; have z1 := Z1.c1; have z2 := Z1.f0; have z3 := Z1.f1; have z4 := Z1.lt
      have q := box2 Z1.c0 Z1.c1 (.slice none 0 0) (.string ⟨#[]⟩)
      have HBB := Lib.hid (below2 (p := w.heap.size + 1) B1 (by omega) (.slice none 0 0) (.string ⟨#[]⟩))
      clear Z1 B1
      refine Lib.hid ?_
      go_wp2
      obtain ⟨q1, q2⟩ := q
      refine bodyPost_ret (by simp [results, Tryz.results56, go_sem, q1, q2]; rfl) rfl ?_
      exact ⟨none, 0, rfl, RowB.nil _ _, HBB.out⟩

/-- The error of two expressions. -/
def twoE (l : List ByteArray) (k : ByteArray) (m : List ByteArray) (k2 : ByteArray) : Nat :=
  if linE l k = 0 then (if linE m k2 = 0 then (if l.length = m.length then 0 else 22) else linE m k2) else linE l k
set_option maxHeartbeats 2000000 in
theorem refTwo (l : List ByteArray) (k : ByteArray) (ao : Option Addr) (c : Nat) (m : List ByteArray) (k2 : ByteArray) (bo : Option Addr) (d : Nat) (w : World) (hr : SRow w ao c l) (hz : ∀ s ∈ l, s.size ≤ 800000) (hk : k.size ≤ 800000) (hn : l.length ≤ 1000000)
    (hr2 : SRow w bo d m) (hz2 : ∀ s ∈ m, s.size ≤ 800000) (hk2 : k2.size ≤ 800000) (hn2 : m.length ≤ 1000000) :
    Calls Tryz.prog 55 #[.agg #[.slice ao l.length c, .string k], .agg #[.slice bo m.length d, .string k2]] w (Bret (.int .i64 (twoE l k m k2 : Nat)) w) := by
  have C1 := fun (W : World) (hW : Below w.heap.size w W) => refLinCheck l k ao c W (hr.mono hW) hz hk hn
  have C2 := fun (W : World) (hW : Below w.heap.size w W) => refLinCheck m k2 bo d W (hr2.mono hW) hz2 hk2 hn2
  have hc1 := linE_cases l k
  have hc2 := linE_cases m k2
  obtain ⟨X, Y, B⟩ := entryAB w (.slice ao l.length c) (.string k) (.slice bo m.length d) (.string k2) 27
  have x0 := X.c0; have x1 := X.c1; have x4 := X.lt; have y0 := Y.c0; have y1 := Y.c1; have y4 := Y.lt
  unfold twoE
  clear hz hk hr hz2 hk2 hr2
  by_cases h0 : linE l k = 0
  · rw [if_pos h0]
    rw [h0] at C1
    by_cases h1 : linE m k2 = 0
    · rw [if_pos h1]
      rw [h1] at C2
      have KC := Lib.hid C1; have KD := Lib.hid C2; clear C1 C2 hc1 hc2 h0 h1
      generalize l.length = n1 at *
      generalize m.length = n2 at *
      by_cases hl : n1 = n2
      · rw [if_pos hl]
        subst hl
        go_enter Tryz.func55, Tryz.ntmps55
        go_wp2_with (go_at_call 27; refine (KC.out _ B).mono ?_; rintro e w1 ⟨rfl, hb1⟩; refine Hid.out ?_)
        have X1 := X.mono hb1; have Y1 := Y.mono hb1; have B1 := Below.chain B hb1
        clear hb1 X Y B x0 x1 x4 y0 y1 y4
        have x0 := X1.c0; have x1 := X1.c1; have x4 := X1.lt; have y0 := Y1.c0; have y1 := Y1.c1; have y4 := Y1.lt
        refine Lib.hid ?_
        go_wp2_with (go_at_call 27; refine (KD.out _ B1).mono ?_; rintro e w2 ⟨rfl, hb2⟩; refine Hid.out ?_)
        have X2 := X1.mono hb2; have Y2 := Y1.mono hb2; have B2 := Below.chain B1 hb2
        clear hb2 X1 Y1 B1 x0 x1 x4 y0 y1 y4
        have x0 := X2.c0; have x1 := X2.c1; have x4 := X2.lt; have y0 := Y2.c0; have y1 := Y2.c1; have y4 := Y2.lt
        have HB := Lib.hid B2; clear B2 X2 Y2
        refine Lib.hid ?_
        go_wp2
        refine bodyPost_ret (v := .int .i64 0) (by simp [results, Tryz.results55, go_sem]) rfl ?_
        exact ⟨rfl, HB.out⟩
      · rw [if_neg hl]
        have hd : ¬ ((n1 : Int) = (n2 : Int)) := by omega
        have hd2 : ((n1 : Int) == (n2 : Int)) = false := by simp; omega
        go_enter Tryz.func55, Tryz.ntmps55
        go_wp2_with (go_at_call 27; refine (KC.out _ B).mono ?_; rintro e w1 ⟨rfl, hb1⟩; refine Hid.out ?_)
        have X1 := X.mono hb1; have Y1 := Y.mono hb1; have B1 := Below.chain B hb1
        clear hb1 X Y B x0 x1 x4 y0 y1 y4
        have x0 := X1.c0; have x1 := X1.c1; have x4 := X1.lt; have y0 := Y1.c0; have y1 := Y1.c1; have y4 := Y1.lt
        refine Lib.hid ?_
        go_wp2_with (go_at_call 27; refine (KD.out _ B1).mono ?_; rintro e w2 ⟨rfl, hb2⟩; refine Hid.out ?_)
        have X2 := X1.mono hb2; have Y2 := Y1.mono hb2; have B2 := Below.chain B1 hb2
        clear hb2 X1 Y1 B1 x0 x1 x4 y0 y1 y4
        have x0 := X2.c0; have x1 := X2.c1; have x4 := X2.lt; have y0 := Y2.c0; have y1 := Y2.c1; have y4 := Y2.lt
        have HB := Lib.hid B2; clear B2 X2 Y2
        refine Lib.hid ?_
        go_wp2
        refine bodyPost_ret (v := .int .i64 22) (by simp [results, Tryz.results55, go_sem]) rfl ?_
        exact ⟨rfl, HB.out⟩
    · rw [if_neg h1]
      have KC := Lib.hid C1; clear C1 hc1 h0
      rcases hc2 with h | h | h | h
      · exact absurd h h1
      all_goals
        rw [h] at C2 ⊢
        clear h h1
        have KD := Lib.hid C2; clear C2
        go_enter Tryz.func55, Tryz.ntmps55
        go_wp2_with (go_at_call 27; refine (KC.out _ B).mono ?_; rintro e w1 ⟨rfl, hb1⟩; refine Hid.out ?_)
        have Y1 := Y.mono hb1; have B1 := Below.chain B hb1
        clear hb1 X Y B x0 x1 x4 y0 y1 y4
        have y0 := Y1.c0; have y1 := Y1.c1; have y4 := Y1.lt
        refine Lib.hid ?_
        go_wp2_with (go_at_call 27; refine (KD.out _ B1).mono ?_; rintro e w2 ⟨rfl, hb2⟩; refine Hid.out ?_)
        have HB := Lib.hid (Below.chain B1 hb2); clear hb2 Y1 B1
        refine Lib.hid ?_
        go_wp2
        refine bodyPost_ret (by simp [results, Tryz.results55, go_sem]; rfl) rfl ?_
        exact ⟨rfl, HB.out⟩
  · rw [if_neg h0]
    clear C2 hc2
    rcases hc1 with h | h | h | h
    · exact absurd h h0
    all_goals
      rw [h] at C1 ⊢
      clear h h0
      have KC := Lib.hid C1; clear C1
      go_enter Tryz.func55, Tryz.ntmps55
      go_wp2_with (go_at_call 27; refine (KC.out _ B).mono ?_; rintro e w1 ⟨rfl, hb1⟩; refine Hid.out ?_)
      have HB := Lib.hid (Below.chain B hb1); clear hb1 X Y B
      refine Lib.hid ?_
      go_wp2
      refine bodyPost_ret (by simp [results, Tryz.results55, go_sem]; rfl) rfl ?_
      exact ⟨rfl, HB.out⟩
end Go.Proofs.YtjobmkdaaionlaaGreatDoor

/-
  linear: the reference's Add, Scale.
-/
set_option linter.unusedSimpArgs false
namespace Go.Proofs.YtjobmkdaaionlaaGreatDoor
open Go Go.Proofs Go.RowKit

theorem firstE_iff : ∀ (l : List ByteArray), firstE l = 0 ↔ ∀ s ∈ l, numE (bytes s) = 0
  | [] => by simp [firstE]
  | s :: t => by
    unfold firstE
    by_cases h : numE (bytes s) = 0
    · rw [if_pos h, firstE_iff t]; simp [h]
    · rw [if_neg h]; simp [h]
theorem doneO_expr {l : List ByteArray} {k : ByteArray} {m : Nat} (hm : m ≤ 4096) (hg : ∀ s ∈ l ++ [k], Good m s) (hl : l.length ≤ 32) : doneO l k = exprO l k := by
  unfold doneO exprO
  have e : linE l k = 0 ↔ (l ++ [k]).all shortS = true := by
    unfold linE
    rw [if_neg (by omega), firstE_iff, List.all_eq_true]
    constructor
    · intro h s hs
      exact shortS_num (h s hs)
    · intro h s hs
      rw [numE_good (hg s hs) hm]; exact if_pos (h s hs)
  by_cases h : linE l k = 0
  · rw [if_pos h, if_pos (e.1 h)]
  · rw [if_neg h, if_neg (fun k => h (e.2 k))]
theorem good_sizes {l : List ByteArray} {k : ByteArray} {m : Nat} (h0 : 0 < m) (hm : m ≤ 20000) (hg : ∀ s ∈ l ++ [k], Good m s) : (∀ s ∈ l, s.size ≤ 800000) ∧ k.size ≤ 800000 :=
  ⟨fun s hs => (hg s (List.mem_append_left _ hs)).sz2 h0 hm, (hg k (by simp)).sz2 h0 hm⟩
theorem map_good2 {l : List ByteArray} {k x : ByteArray} {i j : Nat} (hg : ∀ s ∈ l ++ [k], Good i s) (hx : Good j x) : ∀ s ∈ (l.map fun s => mulT s x) ++ [mulT k x], Good (i + j) s := by
  intro s hs
  rcases List.mem_append.1 hs with h | h
  · obtain ⟨u, hu, rfl⟩ := List.mem_map.1 h
    exact (hg u (List.mem_append_left _ hu)).mul hx
  · rw [List.mem_singleton.1 h]; exact (hg k (by simp)).mul hx
theorem zip_good2 {l m : List ByteArray} {k k2 : ByteArray} {i j : Nat} (hg : ∀ s ∈ l ++ [k], Good i s) (hg2 : ∀ s ∈ m ++ [k2], Good j s) : ∀ s ∈ (List.zipWith addT l m) ++ [addT k k2], Good (i + j + 1) s := by
  intro s hs
  rcases List.mem_append.1 hs with h | h
  · obtain ⟨n, hn, e⟩ := List.mem_iff_getElem.1 h
    rw [List.getElem_zipWith] at e
    rw [← e]
    exact (hg _ (List.mem_append_left _ (List.getElem_mem _))).add (hg2 _ (List.mem_append_left _ (List.getElem_mem _)))
  · rw [List.mem_singleton.1 h]; exact (hg k (by simp)).add (hg2 k2 (by simp))

theorem twoE_cases (l : List ByteArray) (k : ByteArray) (m : List ByteArray) (k2 : ByteArray) : twoE l k m k2 = 0 ∨ twoE l k m k2 = 3 ∨ twoE l k m k2 = 5 ∨ twoE l k m k2 = 10 ∨ twoE l k m k2 = 22 := by
  have h1 := linE_cases l k
  have h2 := linE_cases m k2
  unfold twoE
  split <;> (try split) <;> (try split) <;> omega
theorem twoE_zero {l : List ByteArray} {k : ByteArray} {m : List ByteArray} {k2 : ByteArray} (h : twoE l k m k2 = 0) : linE l k = 0 ∧ linE m k2 = 0 ∧ l.length = m.length := by
  unfold twoE at h
  split at h
  · split at h
    · split at h
      · exact ⟨by assumption, by assumption, by assumption⟩
      · omega
    · omega
  · omega
end Go.Proofs.YtjobmkdaaionlaaGreatDoor

/-
  linear: the reference's Add.
-/
set_option linter.unusedSimpArgs false
namespace Go.Proofs.YtjobmkdaaionlaaGreatDoor
open Go Go.Proofs Go.RowKit

end Go.Proofs.YtjobmkdaaionlaaGreatDoor
