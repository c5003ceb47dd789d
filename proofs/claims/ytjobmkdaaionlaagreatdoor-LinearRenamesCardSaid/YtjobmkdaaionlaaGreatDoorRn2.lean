import Derived.Test.YtjobmkdaaionlaaGreatDoorCut36
import Derived.Test.YtjobmkdaaionlaaGreatDoorRn1
import Derived.Test.YtjobmkdaaionlaaGreatDoorCut34

set_option linter.unusedVariables false
/-
  linear: the reference's Moved.
-/
set_option linter.unusedSimpArgs false
namespace Go.Proofs.YtjobmkdaaionlaaGreatDoor
open Go Go.Proofs Go.RowKit

/-- The coefficients after j of them were moved. -/
def movS (l : List ByteArray) (ts : List Int) (n : Nat) : Nat → List ByteArray
  | 0 => List.replicate n z0
  | j + 1 => (movS l ts n j).set (ts.getD j 0).toNat (addT ((movS l ts n j).getD (ts.getD j 0).toNat ⟨#[]⟩) (l.getD j ⟨#[]⟩))
theorem movS_good {l : List ByteArray} (hg : ∀ s ∈ l, Good 100 s) (ts : List Int) (n : Nat) (hts : ∀ t ∈ ts, 0 ≤ t ∧ t < (n : Int)) : ∀ j, j ≤ l.length → j ≤ ts.length → (movS l ts n j).length = n ∧ ∀ s ∈ movS l ts n j, Good (100 + 101 * j) s
  | 0, _, _ => ⟨List.length_replicate .., fun s hs => by obtain rfl := List.eq_of_mem_replicate hs; exact good0 (by decide)⟩
  | j + 1, h1, h2 => by
    obtain ⟨a, b⟩ := movS_good hg ts n hts j (by omega) (by omega)
    unfold movS
    refine ⟨by rw [List.length_set]; exact a, fun s hs => ?_⟩
    rcases List.mem_or_eq_of_mem_set hs with h | rfl
    · exact (b s h).mono (by omega)
    · have ht := hts (ts.getD j 0) (by rw [show ts.getD j 0 = ts[j]'(by omega) by simp [show j < ts.length by omega]]; exact List.getElem_mem _)
      have hlt : (ts.getD j 0).toNat < (movS l ts n j).length := by omega
      rw [getD_get _ hlt, getD_get l (by omega)]
      exact ((b _ (List.getElem_mem _)).add (hg _ (List.getElem_mem _))).mono (by omega)
theorem rv_z0 : rv z0 = 0 := by
  have h : z0 = tq 0 := tq0.symm
  rw [h, rv_tq]
theorem addT_z0 {k : Nat} {s : ByteArray} (h : Good k s) : addT s z0 = s := by
  unfold addT
  rw [rv_z0, Rat.add_zero, h.lit]
theorem movS_eq {l : List ByteArray} (hg : ∀ s ∈ l, Good 100 s) (ts : List Int) (n : Nat) (hts : ∀ t ∈ ts, 0 ≤ t ∧ t < (n : Int)) (hlen : ts.length = l.length) : ∀ j, j ≤ l.length → movS l ts n j = movL l ts n (nzTo l j)
  | 0, _ => rfl
  | j + 1, h1 => by
    have ih := movS_eq hg ts n hts hlen j (by omega)
    obtain ⟨a, b⟩ := movS_good hg ts n hts j (by omega) (by omega)
    have hlt : j < l.length := by omega
    by_cases hz : l[j] = z0
    · rw [nzTo_zero hlt hz, ← ih]
      show (movS l ts n j).set _ _ = _
      have ht := hts (ts.getD j 0) (by rw [show ts.getD j 0 = ts[j]'(by omega) by simp [show j < ts.length by omega]]; exact List.getElem_mem _)
      have hlt2 : (ts.getD j 0).toNat < (movS l ts n j).length := by omega
      rw [getD_get _ hlt2, getD_get l hlt, hz, addT_z0 (b _ (List.getElem_mem _)), List.set_getElem_self]
    · rw [nzTo_more hlt hz, movL_snoc, ← ih]
      rfl

set_option maxRecDepth 20000 in
set_option maxHeartbeats 8000000 in
theorem refMoved (l : List ByteArray) (k : ByteArray) (ao : Option Addr) (c : Nat) (ts : List Int) (tp : Option Addr) (tc n : Nat) (w : World) (hr : SRow w ao c l) (hl : l.length ≤ 32) (ht : IRow w tp tc ts) (hn : n ≤ 1000) (hlen : ts.length = l.length)
    (hts : ∀ t ∈ ts, 0 ≤ t ∧ t < (n : Int)) (hg : ∀ s ∈ l, Good 100 s) :
    Calls Tryz.prog 74 #[.agg #[.slice ao l.length c, .string k], .slice tp l.length tc, .int .i64 (n : Int)] w (OutRet (w.heap.size + 2) (movS l ts n l.length) k w) := by
  have CF := fun (W : World) => flat_any n k W hn
  unfold OutRet at CF
  rw [List.length_replicate] at CF
  have hmg := fun j (h : j ≤ l.length) => movS_good hg ts n hts j h (by omega)
  have CE : ∀ (j : Nat) (hj : j < l.length) (W : World), Calls Tryz.prog 84 #[.string ((movS l ts n j).getD (ts.getD j 0).toNat ⟨#[]⟩), .string (l[j]'hj)] W (Bret (.string (addT ((movS l ts n j).getD (ts.getD j 0).toNat ⟨#[]⟩) (l[j]'hj))) W) := fun j hj W => by
    obtain ⟨a, b⟩ := hmg j (by omega)
    have ht := hts (ts.getD j 0) (by rw [show ts.getD j 0 = ts[j]'(by omega) by simp [show j < ts.length by omega]]; exact List.getElem_mem _)
    have hlt2 : (ts.getD j 0).toNat < (movS l ts n j).length := by omega
    rw [getD_get _ hlt2]
    exact plusG (b _ (List.getElem_mem _)) (hg _ (List.getElem_mem hj)) (by omega) (by decide) (by omega) (by decide) W
  have hstep : ∀ (j : Nat) (hj : j < l.length), movS l ts n (j + 1) = (movS l ts n j).set (ts.getD j 0).toNat (addT ((movS l ts n j).getD (ts.getD j 0).toNat ⟨#[]⟩) (l[j]'hj)) := fun j hj => by rw [← getD_get l hj]; rfl
  have hzero : movS l ts n 0 = List.replicate n z0 := rfl
  have hmlen := fun j (h : j ≤ l.length) => (hmg j h).1
  have hrow : ∀ W, Below w.heap.size w W → ∀ j (hj : j < l.length), ∃ b off, ao = some ⟨b, off, none⟩ ∧ b < W.heap.size ∧ W.cell? ⟨b, off + j, none⟩ = some (.string (l[j]'hj)) := fun W hW => (hr.mono hW).get
  have htow : ∀ W, Below w.heap.size w W → ∀ j (hj : j < l.length), ∃ b off, tp = some ⟨b, off, none⟩ ∧ b < w.heap.size ∧ W.cell? ⟨b, off + j, none⟩ = some (.int .i64 (ts.getD j 0)) ∧ 0 ≤ ts.getD j 0 ∧ ts.getD j 0 < (n : Int) := fun W hW j hj => by
    obtain ⟨b, off, e, h1, h2⟩ := ht.get j (by omega)
    have e2 : ts.getD j 0 = ts[j]'(by omega) := by simp [show j < ts.length by omega]
    have := hts (ts.getD j 0) (by rw [e2]; exact List.getElem_mem _)
    exact ⟨b, off, e, h1, by rw [e2]; exact (hW.cell (p := ⟨b, off + j, none⟩) h1).trans h2, this.1, this.2⟩
  generalize hM : movS l ts n = M at *
  have HROW := Lib.hid hrow; have HTOW := Lib.hid htow; have KF := Lib.hid CF; have KE := Lib.hid CE; have HST := Lib.hid hstep; have HZE := Lib.hid hzero; have HML := Lib.hid hmlen
  have hrb : ∀ j, j < l.length → ∃ b off, ao = some ⟨b, off, none⟩ ∧ b < w.heap.size := fun j hj => by obtain ⟨b, off, e, h, -⟩ := hrow w (Below.refl _ _) j hj; exact ⟨b, off, e, h⟩
  have HRB := Lib.hid hrb
  clear hrow htow CF CE hstep hzero hmlen hmg hr ht hts hg hM hlen hrb
  have X0 := Bx2.new w (.slice ao l.length c) (.string k) 27
  obtain ⟨X0, Z0, B0⟩ := entryAB w (.slice ao l.length c) (.string k) (.slice none 0 0) (.string ⟨#[]⟩) 27
  go_enter Tryz.func74, Tryz.ntmps74
  have x0 := X0.c0; have x1 := X0.c1; have x4 := X0.lt
  go_wp2_with (go_at_call 49; refine (KF.out _).mono ?_; rintro e w1 ⟨fo, fc, rfl, ho, hb1⟩; refine Hid.out ?_)
  have X1 := X0.mono hb1; have Z1 := Z0.mono hb1; have B1 := Below.chain B0 hb1
  have hb5 : w.heap.size + 2 ≤ w1.heap.size := by have := Z1.lt; omega
  have ho1 : w1.ownsRow (w.heap.size + 2) 22 1 (.slice fo n fc) n (strCells (M 0)) := by rw [HZE.out]; exact owns_base ho (by have := Z0.lt; omega)
  clear hb1 x0 x1 x4 X0 Z0 B0 ho
  refine Lib.hid ?_
  go_wp2_with fail
  have N1 := nb (Below.refl w1.heap.size w1) (Obj.cells #[.slice fo n fc, .string k] 27)
  have X2 := X1.mono N1; have Z2 := Z1.mono N1; have B2 := Below.chain B1 N1
  have O2 := Bx2.new w1 (.slice fo n fc) (.string k) 27
  have R2 := ho1.alloc (Obj.cells #[.slice fo n fc, .string k] 27)
  have hfl : ∀ g, (Value.slice fo n fc).ownBlock = some g → g < w1.heap.size := fun g hg => (ho1.lt g hg).2
  clear X1 Z1 B1 N1 ho1
  generalize w1.alloc (Obj.cells #[.slice fo n fc, .string k] 27) = W2 at *
  generalize hb : w1.heap.size = b5 at *
  clear hb
  go_loopw [8] (fun iv wr => ∃ (j : Nat), j ≤ l.length ∧ iv = .int .i64 (j : Int) ∧ Bx2 wr w.heap.size (.slice ao l.length c) (.string k) ∧ Bx2 wr (w.heap.size + 1) (.slice none 0 0) (.string ⟨#[]⟩) ∧ Bx2 wr b5 (.slice fo n fc) (.string k) ∧ wr.ownsRow (w.heap.size + 2) 22 1 (.slice fo n fc) n (strCells (M j)) ∧ Below w.heap.size w wr) (fun iv _ => l.length - (intOf iv).toNat)
  case atStart => exact ⟨0, Nat.zero_le _, rfl, X2, Z2, O2, R2, B2⟩
  case round =>
    obtain ⟨j, hj, rfl, hx, hz, hb, ho, hB⟩ := hrel
    clear X2 Z2 O2 B2 R2
    by_cases hlt : j < l.length
    · obtain ⟨b, off, rfl, hbw⟩ := HRB.out j hlt
      obtain ⟨b', off', e', hbl, hcl⟩ := HROW.out wr hB j hlt
      cases e'
      obtain ⟨tb, tof, rfl, htb, htc, ht0, ht1⟩ := HTOW.out wr hB j hlt
      have CA := KE.out j hlt
      have hst := HST.out j hlt
      have hml := HML.out j hj
      generalize l[j]'hlt = sj at *
      obtain ⟨t, hte⟩ := Int.eq_ofNat_of_zero_le ht0
      rw [hte] at htc ht0 ht1 hst CA
      rw [Int.toNat_natCast] at hst CA
      have htn : t < n := by omega
      obtain ⟨g, hg⟩ := (show ∃ g, Value.slice fo n fc = .slice (some ⟨g, 0, none⟩) n fc from by
        rcases ho.2 with ⟨-, h0⟩ | ⟨g, cap, cur, e, -⟩
        · omega
        · injection e with e1 e2 e3; subst e1; exact ⟨g, rfl⟩)
      cases hg
      have hgb := ho.lt g rfl
      have hgl : g < b5 := hfl g rfl
      have oc : n ≤ fc := by
        rcases ho.2 with ⟨e, -⟩ | ⟨g2, cap2, cur, e, -, -, hle, -⟩
        · cases e
        · cases e; exact hle
      have o0 : wr.cell? ⟨g, t, none⟩ = some (.string ((M j).getD t ⟨#[]⟩)) := by
        rw [ho.cellAt t (by omega), getD_get _ (by rw [hml]; exact htn)]; simp [strCells, show t < (M j).length by rw [hml]; exact htn]
      have ofz := ho.frozenAt t
      have hj0 : (0 : Int) ≤ (j : Int) := by omega
      have hj1 : (j : Int) < (l.length : Int) := by omega
      have x0 := hx.c0; have x4 := hx.lt
      have KCA := Lib.hid CA
      have KST : ∀ W, Below wr.heap.size wr W → ((((W.cell? ⟨w.heap.size, 0, none⟩ = some (.slice (some ⟨b, off, none⟩) l.length c) ∧ W.cell? ⟨b, off + j, none⟩ = some (.string sj)) ∧ W.cell? ⟨b5, 0, none⟩ = some (.slice (some ⟨g, 0, none⟩) n fc)) ∧ W.cell? ⟨tb, tof + j, none⟩ = some (.int .i64 (t : Int))) ∧ W.cell? ⟨g, t, none⟩ = some (.string ((M j).getD t ⟨#[]⟩))) := fun W hW =>
        ⟨⟨⟨⟨(hx.mono hW).c0, (hW.cell (p := ⟨b, off + j, none⟩) hbl).trans hcl⟩, (hb.mono hW).c0⟩, (hW.cell (p := ⟨tb, tof + j, none⟩) (Nat.lt_of_lt_of_le htb hB.size)).trans htc⟩, (hW.cell (p := ⟨g, t, none⟩) hgb.2).trans o0⟩
      have HSTT := Lib.hid KST
      have hgs : g < wr.heap.size := hgb.2
      have hg2 : w.heap.size + 2 ≤ g := hgb.1
      have hb5s := hb.lt
      have KOW : ∀ W, Below wr.heap.size wr W → W.ownsRow (w.heap.size + 2) 22 1 (.slice (some ⟨g, 0, none⟩) n fc) n (strCells (M j)) := fun W hW => by
        obtain ⟨h1, h2⟩ := ho
        refine ⟨h1, h2.imp_right fun ⟨b, cap, cur, e, hb, hg, r⟩ => ⟨b, cap, cur, e, hb, ?_, r⟩⟩
        rw [hW.block b (Array.getElem?_eq_some_iff.1 hg).1]; exact hg
      have HOW := Lib.hid KOW
      have HX := Lib.hid hx; have HZ := Lib.hid hz; have HBX := Lib.hid hb; have HB := Lib.hid hB
      have HCUR : ∀ q, (M j).getD t ⟨#[]⟩ = q → (M j).getD t ⟨#[]⟩ = q := fun q h => h
      generalize (M j).getD t ⟨#[]⟩ = cu at *
      generalize addT cu sj = su at *
      clear CA KST KOW hx hz hb ho hB hcl hgb htc o0 HCUR
      go_wp2_with fail
      have hD : Below wr.heap.size wr wr.drew := (Below.refl _ _).drew
      clear x0 x4
      refine wp_region_hot (fun j => j == 21) (fun w' => ((((w'.cell? ⟨w.heap.size, 0, none⟩ = some (.slice (some ⟨b, off, none⟩) l.length c) ∧ w'.cell? ⟨b, off + j, none⟩ = some (.string sj)) ∧ w'.cell? ⟨b5, 0, none⟩ = some (.slice (some ⟨g, 0, none⟩) n fc)) ∧ w'.cell? ⟨tb, tof + j, none⟩ = some (.int .i64 (t : Int))) ∧ w'.cell? ⟨g, t, none⟩ = some (.string cu))) (by kernel_rfl) (HSTT.out _ hD) (fun hHeld => ?_)
      refine hot_take (i := 0) (oi := { dst := some 19, op := Op.fieldAddr 27 (Operand.tmp 7) 0, type := 0, pos := "ref.go:199", after := #[], guard := none }) (v := ?v0) rfl (by kernel_rfl) (by kernel_rfl) (by kernel_rfl) rfl (by kernel_rfl) (by kernel_rfl) (fun _ _ _ h => h) (Or.inl ⟨by rfl, ?h0⟩) (by assumption) ?r0
      case h0 => (intro w hSw; (try dsimp only at hSw); go_simp; try with_reducible rfl)
      (try simp only [Act.put, List.setIfInBounds_toArray, List.set_cons_zero, List.set_cons_succ])
      refine hot_take (i := 1) (oi := { dst := some 20, op := Op.load 25 (Operand.tmp 19), type := 25, pos := "ref.go:199", after := #[{ on := 0, ground := Ground.data }], guard := none }) (v := ?v1) rfl (by kernel_rfl) (by kernel_rfl) (by kernel_rfl) rfl (by kernel_rfl) (by kernel_rfl) (fun _ _ _ h => h) (Or.inl ⟨by rfl, ?h1⟩) (by assumption) ?r1
      case h1 => (intro w hSw; (try dsimp only at hSw); go_simp; try with_reducible rfl)
      (try simp only [Act.put, List.setIfInBounds_toArray, List.set_cons_zero, List.set_cons_succ])
      refine hot_take (i := 2) (oi := { dst := some 21, op := Op.move (Operand.tmp 1), type := 64, pos := "ref.go:199", after := #[], guard := none }) (v := ?v2) rfl (by kernel_rfl) (by kernel_rfl) (by kernel_rfl) rfl (by kernel_rfl) (by kernel_rfl) (fun _ _ _ h => h) (Or.inl ⟨by rfl, ?h2⟩) (by assumption) ?r2
      case h2 => (intro w hSw; (try dsimp only at hSw); go_simp; try with_reducible rfl)
      (try simp only [Act.put, List.setIfInBounds_toArray, List.set_cons_zero, List.set_cons_succ])
      refine hot_take (i := 3) (oi := { dst := some 22, op := Op.move (Operand.tmp 8), type := 3, pos := "ref.go:199", after := #[], guard := none }) (v := ?v3) rfl (by kernel_rfl) (by kernel_rfl) (by kernel_rfl) rfl (by kernel_rfl) (by kernel_rfl) (fun _ _ _ h => h) (Or.inl ⟨by rfl, ?h3⟩) (by assumption) ?r3
      case h3 => (intro w hSw; (try dsimp only at hSw); go_simp; try with_reducible rfl)
      (try simp only [Act.put, List.setIfInBounds_toArray, List.set_cons_zero, List.set_cons_succ])
      refine hot_take (i := 4) (oi := { dst := some 23, op := Op.indexAddr 64 (Operand.tmp 21) (Operand.tmp 22), type := 0, pos := "ref.go:199", after := #[{ on := 2, ground := Ground.data }, { on := 3, ground := Ground.data }], guard := none }) (v := ?v4) rfl (by kernel_rfl) (by kernel_rfl) (by kernel_rfl) rfl (by kernel_rfl) (by kernel_rfl) (fun _ _ _ h => h) (Or.inl ⟨by rfl, ?h4⟩) (by assumption) ?r4
      case h4 => (intro w hSw; (try dsimp only at hSw); go_simp; try with_reducible rfl)
      (try simp only [Act.put, List.setIfInBounds_toArray, List.set_cons_zero, List.set_cons_succ])
      refine hot_take (i := 5) (oi := { dst := some 24, op := Op.load 3 (Operand.tmp 23), type := 3, pos := "ref.go:199", after := #[{ on := 4, ground := Ground.data }], guard := none }) (v := ?v5) rfl (by kernel_rfl) (by kernel_rfl) (by kernel_rfl) rfl (by kernel_rfl) (by kernel_rfl) (fun _ _ _ h => h) (Or.inl ⟨by rfl, ?h5⟩) (by assumption) ?r5
      case h5 => (intro w hSw; (try dsimp only at hSw); go_simp; try with_reducible rfl)
      (try simp only [Act.put, List.setIfInBounds_toArray, List.set_cons_zero, List.set_cons_succ])
      refine hot_take (i := 6) (oi := { dst := some 25, op := Op.fieldAddr 27 (Operand.tmp 7) 0, type := 0, pos := "ref.go:199", after := #[], guard := none }) (v := ?v6) rfl (by kernel_rfl) (by kernel_rfl) (by kernel_rfl) rfl (by kernel_rfl) (by kernel_rfl) (fun _ _ _ h => h) (Or.inl ⟨by rfl, ?h6⟩) (by assumption) ?r6
      case h6 => (intro w hSw; (try dsimp only at hSw); go_simp; try with_reducible rfl)
      (try simp only [Act.put, List.setIfInBounds_toArray, List.set_cons_zero, List.set_cons_succ])
      refine hot_take (i := 7) (oi := { dst := some 26, op := Op.load 25 (Operand.tmp 25), type := 25, pos := "ref.go:199", after := #[{ on := 6, ground := Ground.data }], guard := none }) (v := ?v7) rfl (by kernel_rfl) (by kernel_rfl) (by kernel_rfl) rfl (by kernel_rfl) (by kernel_rfl) (fun _ _ _ h => h) (Or.inl ⟨by rfl, ?h7⟩) (by assumption) ?r7
      case h7 => (intro w hSw; (try dsimp only at hSw); go_simp; try with_reducible rfl)
      (try simp only [Act.put, List.setIfInBounds_toArray, List.set_cons_zero, List.set_cons_succ])
      refine hot_take (i := 8) (oi := { dst := some 27, op := Op.move (Operand.tmp 1), type := 64, pos := "ref.go:199", after := #[], guard := none }) (v := ?v8) rfl (by kernel_rfl) (by kernel_rfl) (by kernel_rfl) rfl (by kernel_rfl) (by kernel_rfl) (fun _ _ _ h => h) (Or.inl ⟨by rfl, ?h8⟩) (by assumption) ?r8
      case h8 => (intro w hSw; (try dsimp only at hSw); go_simp; try with_reducible rfl)
      (try simp only [Act.put, List.setIfInBounds_toArray, List.set_cons_zero, List.set_cons_succ])
      refine hot_take (i := 9) (oi := { dst := some 28, op := Op.move (Operand.tmp 8), type := 3, pos := "ref.go:199", after := #[], guard := none }) (v := ?v9) rfl (by kernel_rfl) (by kernel_rfl) (by kernel_rfl) rfl (by kernel_rfl) (by kernel_rfl) (fun _ _ _ h => h) (Or.inl ⟨by rfl, ?h9⟩) (by assumption) ?r9
      case h9 => (intro w hSw; (try dsimp only at hSw); go_simp; try with_reducible rfl)
      (try simp only [Act.put, List.setIfInBounds_toArray, List.set_cons_zero, List.set_cons_succ])
      refine hot_take (i := 10) (oi := { dst := some 29, op := Op.indexAddr 64 (Operand.tmp 27) (Operand.tmp 28), type := 0, pos := "ref.go:199", after := #[{ on := 8, ground := Ground.data }, { on := 9, ground := Ground.data }], guard := none }) (v := ?v10) rfl (by kernel_rfl) (by kernel_rfl) (by kernel_rfl) rfl (by kernel_rfl) (by kernel_rfl) (fun _ _ _ h => h) (Or.inl ⟨by rfl, ?h10⟩) (by assumption) ?r10
      case h10 => (intro w hSw; (try dsimp only at hSw); go_simp; try with_reducible rfl)
      (try simp only [Act.put, List.setIfInBounds_toArray, List.set_cons_zero, List.set_cons_succ])
      refine hot_take (i := 11) (oi := { dst := some 30, op := Op.load 3 (Operand.tmp 29), type := 3, pos := "ref.go:199", after := #[{ on := 10, ground := Ground.data }], guard := none }) (v := ?v11) rfl (by kernel_rfl) (by kernel_rfl) (by kernel_rfl) rfl (by kernel_rfl) (by kernel_rfl) (fun _ _ _ h => h) (Or.inl ⟨by rfl, ?h11⟩) (by assumption) ?r11
      case h11 => (intro w hSw; (try dsimp only at hSw); go_simp; try with_reducible rfl)
      (try simp only [Act.put, List.setIfInBounds_toArray, List.set_cons_zero, List.set_cons_succ])
      refine hot_take (i := 12) (oi := { dst := some 31, op := Op.indexAddr 25 (Operand.tmp 26) (Operand.tmp 30), type := 0, pos := "ref.go:199", after := #[{ on := 7, ground := Ground.data }, { on := 11, ground := Ground.data }], guard := none }) (v := ?v12) rfl (by kernel_rfl) (by kernel_rfl) (by kernel_rfl) rfl (by kernel_rfl) (by kernel_rfl) (fun _ _ _ h => h) (Or.inl ⟨by rfl, ?h12⟩) (by assumption) ?r12
      case h12 => (intro w hSw; (try dsimp only at hSw); go_simp; try with_reducible rfl)
      (try simp only [Act.put, List.setIfInBounds_toArray, List.set_cons_zero, List.set_cons_succ])
      refine hot_take (i := 13) (oi := { dst := some 32, op := Op.load 22 (Operand.tmp 31), type := 22, pos := "ref.go:199", after := #[{ on := 12, ground := Ground.data }], guard := none }) (v := ?v13) rfl (by kernel_rfl) (by kernel_rfl) (by kernel_rfl) rfl (by kernel_rfl) (by kernel_rfl) (fun _ _ _ h => h) (Or.inl ⟨by rfl, ?h13⟩) (by assumption) ?r13
      case h13 => (intro w hSw; (try dsimp only at hSw); go_simp; try with_reducible rfl)
      (try simp only [Act.put, List.setIfInBounds_toArray, List.set_cons_zero, List.set_cons_succ])
      refine hot_take (i := 14) (oi := { dst := some 33, op := Op.fieldAddr 27 (Operand.tmp 3) 0, type := 0, pos := "ref.go:199", after := #[], guard := none }) (v := ?v14) rfl (by kernel_rfl) (by kernel_rfl) (by kernel_rfl) rfl (by kernel_rfl) (by kernel_rfl) (fun _ _ _ h => h) (Or.inl ⟨by rfl, ?h14⟩) (by assumption) ?r14
      case h14 => (intro w hSw; (try dsimp only at hSw); go_simp; try with_reducible rfl)
      (try simp only [Act.put, List.setIfInBounds_toArray, List.set_cons_zero, List.set_cons_succ])
      refine hot_take (i := 15) (oi := { dst := some 34, op := Op.load 25 (Operand.tmp 33), type := 25, pos := "ref.go:199", after := #[{ on := 14, ground := Ground.data }], guard := none }) (v := ?v15) rfl (by kernel_rfl) (by kernel_rfl) (by kernel_rfl) rfl (by kernel_rfl) (by kernel_rfl) (fun _ _ _ h => h) (Or.inl ⟨by rfl, ?h15⟩) (by assumption) ?r15
      case h15 => (intro w hSw; (try dsimp only at hSw); go_simp; try with_reducible rfl)
      (try simp only [Act.put, List.setIfInBounds_toArray, List.set_cons_zero, List.set_cons_succ])
      refine hot_take (i := 16) (oi := { dst := some 35, op := Op.move (Operand.tmp 8), type := 3, pos := "ref.go:199", after := #[], guard := none }) (v := ?v16) rfl (by kernel_rfl) (by kernel_rfl) (by kernel_rfl) rfl (by kernel_rfl) (by kernel_rfl) (fun _ _ _ h => h) (Or.inl ⟨by rfl, ?h16⟩) (by assumption) ?r16
      case h16 => (intro w hSw; (try dsimp only at hSw); go_simp; try with_reducible rfl)
      (try simp only [Act.put, List.setIfInBounds_toArray, List.set_cons_zero, List.set_cons_succ])
      refine hot_take (i := 17) (oi := { dst := some 36, op := Op.indexAddr 25 (Operand.tmp 34) (Operand.tmp 35), type := 0, pos := "ref.go:199", after := #[{ on := 15, ground := Ground.data }, { on := 16, ground := Ground.data }], guard := none }) (v := ?v17) rfl (by kernel_rfl) (by kernel_rfl) (by kernel_rfl) rfl (by kernel_rfl) (by kernel_rfl) (fun _ _ _ h => h) (Or.inl ⟨by rfl, ?h17⟩) (by assumption) ?r17
      case h17 => (intro w hSw; (try dsimp only at hSw); go_simp; try with_reducible rfl)
      (try simp only [Act.put, List.setIfInBounds_toArray, List.set_cons_zero, List.set_cons_succ])
      refine hot_take (i := 18) (oi := { dst := some 37, op := Op.load 22 (Operand.tmp 36), type := 22, pos := "ref.go:199", after := #[{ on := 17, ground := Ground.data }], guard := none }) (v := ?v18) rfl (by kernel_rfl) (by kernel_rfl) (by kernel_rfl) rfl (by kernel_rfl) (by kernel_rfl) (fun _ _ _ h => h) (Or.inl ⟨by rfl, ?h18⟩) (by assumption) ?r18
      case h18 => (intro w hSw; (try dsimp only at hSw); go_simp; try with_reducible rfl)
      (try simp only [Act.put, List.setIfInBounds_toArray, List.set_cons_zero, List.set_cons_succ])
      refine hot_one (i := 19) (oi := { dst := some 38, op := Op.call { callee := Callee.value (Operand.func 84), args := #[Operand.tmp 32, Operand.tmp 37], argTypes := #[22, 22] }, type := 22, pos := "ref.go:199", after := #[{ on := 13, ground := Ground.data }, { on := 18, ground := Ground.data }], guard := none }) rfl (by kernel_rfl) (fun K hK => ?_)
      go_simp
      go_wp2_with (go_at_call 84; refine (KCA.out _).mono ?_; rintro e v1 ⟨rfl, hc1⟩)
      have hB1 : Below wr.heap.size wr v1 := Below.chain hD hc1
      have hHeld := HSTT.out _ hB1
      refine hK.out _ _ (fun _ => hHeld) ?_
      clear hK K
      (try simp only [Act.put, List.setIfInBounds_toArray, List.set_cons_zero, List.set_cons_succ])
      refine hot_take (i := 20) (oi := { dst := some 39, op := Op.indexAddr 25 (Operand.tmp 20) (Operand.tmp 24), type := 0, pos := "ref.go:199", after := #[{ on := 1, ground := Ground.data }, { on := 5, ground := Ground.data }, { on := 0, ground := Ground.phase }, { on := 1, ground := Ground.phase }, { on := 2, ground := Ground.phase }, { on := 3, ground := Ground.phase }, { on := 4, ground := Ground.phase }, { on := 5, ground := Ground.phase }, { on := 6, ground := Ground.phase }, { on := 7, ground := Ground.phase }, { on := 8, ground := Ground.phase }, { on := 9, ground := Ground.phase }, { on := 10, ground := Ground.phase }, { on := 11, ground := Ground.phase }, { on := 12, ground := Ground.phase }, { on := 13, ground := Ground.phase }, { on := 14, ground := Ground.phase }, { on := 15, ground := Ground.phase }, { on := 16, ground := Ground.phase }, { on := 17, ground := Ground.phase }, { on := 18, ground := Ground.phase }, { on := 19, ground := Ground.phase }], guard := none }) (v := ?v20) rfl (by kernel_rfl) (by kernel_rfl) (by kernel_rfl) rfl (by kernel_rfl) (by kernel_rfl) (fun _ _ _ h => h) (Or.inl ⟨by rfl, ?h20⟩) (by assumption) ?r20
      case h20 => (intro w hSw; (try dsimp only at hSw); go_simp; try with_reducible rfl)
      (try simp only [Act.put, List.setIfInBounds_toArray, List.set_cons_zero, List.set_cons_succ])
      have hO1 := HOW.out _ hB1
      have q0 := hHeld.2
      have q1 := hO1.frozenAt t
      have q2 : g < v1.heap.size := Nat.lt_of_lt_of_le hgs hB1.size
      refine hot_one (i := 21) (oi := { dst := none, op := Op.store 22 (Operand.tmp 39) (Operand.tmp 38), type := 0, pos := "ref.go:199", after := #[{ on := 20, ground := Ground.data }, { on := 19, ground := Ground.data }, { on := 19, ground := Ground.chain }, { on := 0, ground := Ground.phase }, { on := 1, ground := Ground.phase }, { on := 2, ground := Ground.phase }, { on := 3, ground := Ground.phase }, { on := 4, ground := Ground.phase }, { on := 5, ground := Ground.phase }, { on := 6, ground := Ground.phase }, { on := 7, ground := Ground.phase }, { on := 8, ground := Ground.phase }, { on := 9, ground := Ground.phase }, { on := 10, ground := Ground.phase }, { on := 11, ground := Ground.phase }, { on := 12, ground := Ground.phase }, { on := 13, ground := Ground.phase }, { on := 14, ground := Ground.phase }, { on := 15, ground := Ground.phase }, { on := 16, ground := Ground.phase }, { on := 17, ground := Ground.phase }, { on := 18, ground := Ground.phase }, { on := 19, ground := Ground.phase }], guard := none }) rfl (by kernel_rfl) (fun K hK => ?_)
      go_simp
      refine hK.out _ _ (fun h => by cases h) ?_
      clear hK K q0 q1 q2
      refine hot_done (by kernel_rfl) ?_ _
      have N := (hO1.stored t (.string su)).1
      rw [show (strCells (M j)).set t (.string su) = strCells (M (j + 1)) by rw [hst]; simp [strCells, List.map_set]] at N
      have X9 := (HX.out.mono hB1).set (g := g) (by omega) t (.string su)
      have Z9 := (HZ.out.mono hB1).set (g := g) (by omega) t (.string su)
      have O9 := (HBX.out.mono hB1).set (g := g) (by omega) t (.string su)
      have B9 := (Below.chain HB.out hB1).setCell (p := ⟨g, t, none⟩) (by dsimp only; omega) (.string su)
      have HN := Lib.hid N; have HX9 := Lib.hid X9; have HZ9 := Lib.hid Z9; have HO9 := Lib.hid O9; have HB9 := Lib.hid B9
      clear N X9 Z9 O9 B9 hO1
      go_wp2
      go_roundw
      case rel => exact ⟨j + 1, by omega, by go_num, HX9.out, HZ9.out, HO9.out, HN.out, HB9.out⟩
      case measure => simp [intOf]; omega
    · have hjn : j = l.length := by omega
      subst hjn
      have x0 := hb.c0; have x1 := hb.c1; have x2 := hb.f0; have x3 := hb.f1; have x4 := hb.lt
      have y0 := hx.c0; have y4 := hx.lt
      have z0' := hz.c0; have z1 := hz.c1; have z2 := hz.f0; have z3 := hz.f1; have z4 := hz.lt
      have q := box2 hz.c0 hz.c1 (.slice fo n fc) (.string k)
      have HBB := Lib.hid (below2 (p := w.heap.size + 1) hB (by omega) (.slice fo n fc) (.string k))
      have ho2 := ownsRow_setCell_below (ownsRow_setCell_below ho (a := ⟨w.heap.size + 1, 0, none⟩) (by dsimp only; omega) (.slice fo n fc)) (a := ⟨w.heap.size + 1, 1, none⟩) (by dsimp only; omega) (.string k)
      have hml := HML.out l.length (Nat.le_refl _)
      have HO := Lib.hid ho2
      obtain ⟨q1, q2⟩ := q
      clear ho2 ho hx hz hB hb
      go_wp2
      refine bodyPost_ret (v := .agg #[.slice fo n fc, .string k]) (by simp [results, Tryz.results74, go_sem, q1, q2]) rfl ?_
      exact ⟨fo, fc, by rw [hml], by rw [hml]; exact HO.out, HBB.out⟩
end Go.Proofs.YtjobmkdaaionlaaGreatDoor

/-
  linear: the reference's Rename.
-/
set_option linter.unusedSimpArgs false
namespace Go.Proofs.YtjobmkdaaionlaaGreatDoor
open Go Go.Proofs Go.RowKit

def inB (n : Int) (t : Int) : Bool := decide (0 ≤ t) && decide (t < n)
theorem inB_true {n t : Int} (h : inB n t = true) : 0 ≤ t ∧ t < n := by unfold inB at h; simpa using h
theorem inB_false {n t : Int} (h : inB n t = false) : t < 0 ∨ n ≤ t := by unfold inB at h; simp at h; omega
theorem all_inB {ts : List Int} {n : Int} (h : ∀ i, i < ts.length → inB n (ts.getD i 0) = true) : ts.all (inB n) = true := by
  rw [List.all_eq_true]
  intro t ht
  obtain ⟨i, hi, rfl⟩ := List.mem_iff_getElem.1 ht
  have := h i hi
  rwa [show ts.getD i 0 = ts[i] by simp [hi]] at this

set_option maxRecDepth 20000 in
set_option maxHeartbeats 8000000 in
theorem refRename (l : List ByteArray) (k : ByteArray) (ao : Option Addr) (c : Nat) (ts : List Int) (tp : Option Addr) (tc : Nat) (n : Int) (w : World)
    (hr : SRow w ao c l) (hz : ∀ s ∈ l ++ [k], s.size ≤ 1200000) (hn : l.length ≤ 1200000) (ht : IRow w tp tc ts) (htn : ts.length ≤ 1200000) :
    Calls Tryz.prog 37 #[.agg #[.slice ao l.length c, .string k], .slice tp ts.length tc, .int .i64 n] w (LinRet w.heap.size (renO l k ts n) w) := by
  have CH := fun (W : World) (hW : Below w.heap.size w W) => refLinCheck l k ao c W (hr.mono hW) (fun s hs => hz s (List.mem_append_left _ hs)) (hz k (by simp)) hn
  have hcs := linE_cases l k
  obtain ⟨X, Z, B⟩ := entryAB w (.slice ao l.length c) (.string k) (.slice none 0 0) (.string ⟨#[]⟩) 27
  have hren : renO l k ts n = if linE l k = 0 then (if sizeB n = true then (if ts.length = l.length then (if ts.all (inB n) = true then exprO (movL l ts n.toNat (nz l)) k else .bad 6) else .bad 15) else .bad 2) else .bad (linE l k) := rfl
  rw [hren]
  clear hren
  by_cases h0 : linE l k = 0
  · rw [if_pos h0]
    obtain ⟨g1, g2⟩ := linE_zero h0
    rw [h0] at CH
    have KH := Lib.hid CH; clear CH hcs
    by_cases hs : sizeB n = true
    · rw [if_pos hs]
      obtain ⟨m, rfl⟩ : ∃ m : Nat, n = (m : Int) := by unfold sizeB at hs; simp at hs; exact ⟨n.toNat, by omega⟩
      have hm : m ≤ 32 := by unfold sizeB at hs; simp at hs; omega
      rw [Int.toNat_natCast]
      have hm0 : (0 : Int) ≤ (m : Int) := by omega
      have hm1 : (m : Int) ≤ 32 := by omega
      by_cases hlen : ts.length = l.length
      · rw [if_pos hlen]
        have htow : ∀ W, Below w.heap.size w W → ∀ j (hj : j < l.length), ∃ b off, tp = some ⟨b, off, none⟩ ∧ W.cell? ⟨b, off + j, none⟩ = some (.int .i64 (ts.getD j 0)) := fun W hW j hj => by
          obtain ⟨b, off, e, h1, h2⟩ := ht.get j (by omega)
          have e2 : ts.getD j 0 = ts[j]'(by omega) := by simp [show j < ts.length by omega]
          exact ⟨b, off, e, by rw [e2]; exact (hW.cell (p := ⟨b, off + j, none⟩) h1).trans h2⟩
        have HTOW := Lib.hid htow; clear htow
        by_cases hall : ts.all (inB (m : Int)) = true
        · rw [if_pos hall]
          have hin : ∀ t ∈ ts, 0 ≤ t ∧ t < (m : Int) := fun t h => inB_true (List.all_eq_true.1 hall t h)
          have hgl : ∀ s ∈ l, Good 100 s := fun s hs => g2 s (List.mem_append_left _ hs)
          have hmv := movS_eq hgl ts m hin hlen l.length (Nat.le_refl _)
          rw [show nz l = nzTo l l.length from rfl, ← hmv]
          obtain ⟨ml, mg⟩ := movS_good hgl ts m hin l.length (Nat.le_refl _) (by omega)
          have gm : ∀ s ∈ movS l ts m l.length ++ [k], Good (100 + 101 * l.length) s := fun s hs => by
            rcases List.mem_append.1 hs with h | h
            · exact mg s h
            · rw [List.mem_singleton.1 h]; exact (g2 k (by simp)).mono (by omega)
          have hsz := good_sizes (m := 100 + 101 * l.length) (by omega) (by omega) gm
          rw [← doneO_expr (m := 100 + 101 * l.length) (by omega) gm (by rw [ml]; exact hm)]
          have CT := fun (W : World) (hW : Below w.heap.size w W) => refMoved l k ao c ts tp tc m W (hr.mono hW) g1 (ht.mono hW) (by omega) hlen hin hgl
          have CD := fun (W : World) (a2 : Option Addr) (c2 Bd : Nat) (r : RowB Bd W a2 c2 (movS l ts m l.length)) => refDone (movS l ts m l.length) k a2 c2 Bd W r hsz.1 hsz.2 (by rw [ml]; omega)
          have hgo : ∀ j, j < l.length → decide (ts.getD j 0 < 0) = false ∧ decide ((m : Int) ≤ ts.getD j 0) = false := fun j hj => by
            have := hin (ts.getD j 0) (by rw [show ts.getD j 0 = ts[j]'(by omega) by simp [show j < ts.length by omega]]; exact List.getElem_mem _)
            exact ⟨by rw [decide_eq_false_iff_not]; omega, by rw [decide_eq_false_iff_not]; omega⟩
          rw [hlen]
          clear hr hz ht htn h0 g2 hs hgl hmv mg gm hsz hall hin hlen
          generalize doneO (movS l ts m l.length) k = O at *
          unfold OutRet at CT
          generalize movS l ts m l.length = l2 at *
          rw [ml] at CT CD
          generalize l.length = nl at *
          have KT := Lib.hid CT; have KD := Lib.hid CD; have HLM := Lib.hid ml; have HGO := Lib.hid hgo; clear CT CD ml hgo
          go_enter Tryz.func37, Tryz.ntmps37
          go_wp2_with (go_at_call 27; refine (KH.out _ B).mono ?_; rintro e w1 ⟨rfl, hb1⟩; refine Hid.out ?_)
          have Z1 := Z.mono hb1; have hB1 := Below.chain B hb1; have X1 := X.mono hb1
          have HX := Lib.hid X1; have HZ := Lib.hid Z1; have HB := Lib.hid hB1
          have x0 := X1.c0; have x4 := X1.lt
          clear hb1 X Z B Z1 hB1 X1
          refine Lib.hid ?_
          go_wp2_with fail
          go_loopw [9] (fun iv wr => ∃ j : Nat, j ≤ nl ∧ iv = .int .i64 (j : Int) ∧ wr = w1) (fun iv _ => nl - (intOf iv).toNat)
          case atStart => exact ⟨0, Nat.zero_le _, rfl, rfl⟩
          case round =>
            obtain ⟨j, hj, rfl, hwr⟩ := hrel
            obtain hwr2 : w1 = wr := hwr.symm
            clear hwr
            subst hwr2
            by_cases hlt : j < nl
            · obtain ⟨tb, tof, rfl, hct⟩ := HTOW.out w1 HB.out j hlt
              obtain ⟨hd1, hd2⟩ := HGO.out j hlt
              generalize ts.getD j 0 = t at *
              have hj0 : (0 : Int) ≤ (j : Int) := by omega
              have hj1 : (j : Int) < (nl : Int) := by omega
              go_wp2
              go_roundw
              case rel => exact ⟨j + 1, by omega, by go_num, by first | rfl | trivial⟩
              case measure => simp [intOf]; omega
            · have hjn : j = nl := by omega
              subst hjn
              have x1 := HX.out.c1
              go_wp2_with (go_at_call 74; refine (KT.out _ HB.out).mono ?_; rintro e w3 ⟨a3, c3, rfl, ho3, hb3⟩; refine Hid.out ?_)
              have Z3 := HZ.out.mono hb3; have hB3 := Below.chain HB.out hb3
              have hBd : w.heap.size + 2 ≤ w1.heap.size := by have := HZ.out.lt; omega
              have r3 : RowB (w1.heap.size + 2) w3 a3 c3 l2 := OutRet.row (by rw [HLM.out]; exact ho3)
              have HR3 := Lib.hid r3
              clear hb3 x0 x1 x4 ho3 r3
              refine Lib.hid ?_
              go_wp2_with (go_at_call 56; refine (KD.out _ a3 c3 _ HR3.out).mono ?_; rintro e w5 ⟨ae, ce, rfl, re, hb5⟩; refine Hid.out ?_)
              have Z5 := Z3.mono hb5; have hB5 := Below.chain hB3 hb5
              have z0 := Z5.c0; have z1 := Z5.c1; have z2 := Z5.f0; have z3 := Z5.f1; have z4 := Z5.lt
              have HR := Lib.hid ((re.set (p := w.heap.size + 1) (by omega) 0 (.slice ae O.l.length ce)).set (p := w.heap.size + 1) (by omega) 1 (.string O.k))
              have HBB := Lib.hid (below2 (p := w.heap.size + 1) hB5 (by omega) (.slice ae O.l.length ce) (.string O.k))
              have q := box2 Z5.c0 Z5.c1 (.slice ae O.l.length ce) (.string O.k)
              clear hb5 Z3 hB3 Z5 hB5 re
              refine Lib.hid ?_
              go_wp2
              obtain ⟨q1, q2⟩ := q
              refine bodyPost_ret (v := .tuple #[.agg #[.slice ae O.l.length ce, .string O.k], .int .i64 (O.e : Nat)]) (by simp [results, Tryz.results37, go_sem, q1, q2]) rfl ?_
              exact ⟨ae, ce, rfl, HR.out.lower (by omega), HBB.out⟩
        · rw [if_neg hall]
          have hno : ¬ ∀ i, i < l.length → inB (m : Int) (ts.getD i 0) = true := fun h => hall (all_inB (fun i hi => h i (by omega)))
          rw [hlen]
          clear hr hz ht htn h0 g1 g2 hs hall hlen
          generalize l.length = nl at *
          have HNO := Lib.hid hno; clear hno
          go_enter Tryz.func37, Tryz.ntmps37
          go_wp2_with (go_at_call 27; refine (KH.out _ B).mono ?_; rintro e w1 ⟨rfl, hb1⟩; refine Hid.out ?_)
          have Z1 := Z.mono hb1; have hB1 := Below.chain B hb1; have X1 := X.mono hb1
          have HX := Lib.hid X1; have HZ := Lib.hid Z1; have HB := Lib.hid hB1
          have x0 := X1.c0; have x4 := X1.lt
          clear hb1 X Z B Z1 hB1 X1
          refine Lib.hid ?_
          go_wp2_with fail
          go_loopw [9] (fun iv wr => ∃ j : Nat, j ≤ nl ∧ iv = .int .i64 (j : Int) ∧ wr = w1 ∧ ∀ i, i < j → inB (m : Int) (ts.getD i 0) = true) (fun iv _ => nl - (intOf iv).toNat)
          case atStart => exact ⟨0, Nat.zero_le _, rfl, rfl, fun i h => absurd h (Nat.not_lt_zero i)⟩
          case round =>
            obtain ⟨j, hj, rfl, hwr, hpre⟩ := hrel
            obtain hwr2 : w1 = wr := hwr.symm
            clear hwr
            subst hwr2
            by_cases hlt : j < nl
            · obtain ⟨tb, tof, rfl, hct⟩ := HTOW.out w1 HB.out j hlt
              have hj0 : (0 : Int) ≤ (j : Int) := by omega
              have hj1 : (j : Int) < (nl : Int) := by omega
              cases hq : inB (m : Int) (ts.getD j 0)
              · have hbad := inB_false hq
                clear hpre hq
                generalize ts.getD j 0 = t at *
                by_cases hd0 : t < 0
                · have hd1 : decide (t < 0) = true := by simpa using hd0
                  clear hbad
                  have Z1 := HZ.out; have X1 := HX.out
                  have z0 := Z1.c0; have z1 := Z1.c1; have z2 := Z1.f0; have z3 := Z1.f1; have z4 := Z1.lt
                  have q := box2 Z1.c0 Z1.c1 (.slice none 0 0) (.string ⟨#[]⟩)
                  have HBB := Lib.hid (below2 (p := w.heap.size + 1) HB.out (by omega) (.slice none 0 0) (.string ⟨#[]⟩))
                  clear Z1 X1
                  go_wp2
                  obtain ⟨q1, q2⟩ := q
                  refine bodyPost_ret (by simp [results, Tryz.results37, go_sem, q1, q2]; rfl) rfl ?_
                  exact ⟨none, 0, rfl, RowB.nil _ _, HBB.out⟩
                · have hd1 : decide (t < 0) = false := by simpa using hd0
                  have hd2 : decide ((m : Int) ≤ t) = true := by simp; omega
                  clear hbad
                  have Z1 := HZ.out; have X1 := HX.out
                  have z0 := Z1.c0; have z1 := Z1.c1; have z2 := Z1.f0; have z3 := Z1.f1; have z4 := Z1.lt
                  have q := box2 Z1.c0 Z1.c1 (.slice none 0 0) (.string ⟨#[]⟩)
                  have HBB := Lib.hid (below2 (p := w.heap.size + 1) HB.out (by omega) (.slice none 0 0) (.string ⟨#[]⟩))
                  clear Z1 X1
                  go_wp2
                  obtain ⟨q1, q2⟩ := q
                  refine bodyPost_ret (by simp [results, Tryz.results37, go_sem, q1, q2]; rfl) rfl ?_
                  exact ⟨none, 0, rfl, RowB.nil _ _, HBB.out⟩
              · obtain ⟨hi1, hi2⟩ := inB_true hq
                have hpre2 : ∀ i, i < j + 1 → inB (m : Int) (ts.getD i 0) = true := fun i hi => by
                  rcases Nat.lt_or_ge i j with h | h
                  · exact hpre i h
                  · rw [show i = j by omega]; exact hq
                have HP := Lib.hid hpre2
                clear hpre hq hpre2
                generalize hgt : ts.getD j 0 = t at *
                have hd1 : decide (t < 0) = false := by simp; omega
                have hd2 : decide ((m : Int) ≤ t) = false := by simp; omega
                clear hgt
                go_wp2
                go_roundw
                case rel => exact ⟨j + 1, by omega, by go_num, by first | rfl | trivial, HP.out⟩
                case measure => simp [intOf]; omega
            · exact absurd (fun i hi => hpre i (by omega)) HNO.out
      · rw [if_neg hlen]
        have hlen2 : ¬ ((ts.length : Int) = (l.length : Int)) := by omega
        have hlen3 : ¬ ((l.length : Int) = (ts.length : Int)) := by omega
        clear hr hz hn ht htn h0 g1 g2 hs
        generalize ts.length = nt at *
        generalize l.length = nl at *
        go_enter Tryz.func37, Tryz.ntmps37
        go_wp2_with (go_at_call 27; refine (KH.out _ B).mono ?_; rintro e w1 ⟨rfl, hb1⟩; refine Hid.out ?_)
        have Z1 := Z.mono hb1; have hB1 := Below.chain B hb1; have X1 := X.mono hb1
        have z0 := Z1.c0; have z1 := Z1.c1; have z2 := Z1.f0; have z3 := Z1.f1; have z4 := Z1.lt; have x0' := X1.c0; have x4' := X1.lt
        have q := box2 Z1.c0 Z1.c1 (.slice none 0 0) (.string ⟨#[]⟩)
        have HBB := Lib.hid (below2 (p := w.heap.size + 1) hB1 (by omega) (.slice none 0 0) (.string ⟨#[]⟩))
        clear hb1 X Z B Z1 hB1 X1
        refine Lib.hid ?_
        go_wp2
        obtain ⟨q1, q2⟩ := q
        refine bodyPost_ret (by simp [results, Tryz.results37, go_sem, q1, q2]; rfl) rfl ?_
        exact ⟨none, 0, rfl, RowB.nil _ _, HBB.out⟩
    · rw [if_neg hs]
      clear hr hz hn ht htn h0 g1 g2
      generalize l.length = nl at *
      generalize ts.length = nt at *
      by_cases hd : n < 0
      · have hd1 : decide (n < 0) = true := by simpa using hd
        clear hs
        go_enter Tryz.func37, Tryz.ntmps37
        go_wp2_with (go_at_call 27; refine (KH.out _ B).mono ?_; rintro e w1 ⟨rfl, hb1⟩; refine Hid.out ?_)
        have Z1 := Z.mono hb1; have hB1 := Below.chain B hb1; have X1 := X.mono hb1
        have z0 := Z1.c0; have z1 := Z1.c1; have z2 := Z1.f0; have z3 := Z1.f1; have z4 := Z1.lt; have x0' := X1.c0; have x4' := X1.lt
        have q := box2 Z1.c0 Z1.c1 (.slice none 0 0) (.string ⟨#[]⟩)
        have HBB := Lib.hid (below2 (p := w.heap.size + 1) hB1 (by omega) (.slice none 0 0) (.string ⟨#[]⟩))
        clear hb1 X Z B Z1 hB1 X1
        refine Lib.hid ?_
        go_wp2
        obtain ⟨q1, q2⟩ := q
        refine bodyPost_ret (by simp [results, Tryz.results37, go_sem, q1, q2]; rfl) rfl ?_
        exact ⟨none, 0, rfl, RowB.nil _ _, HBB.out⟩
      · have hd1 : decide (n < 0) = false := by simpa using hd
        have hd2 : decide (32 < n) = true := by
          unfold sizeB at hs; simp at hs ⊢; omega
        clear hs
        go_enter Tryz.func37, Tryz.ntmps37
        go_wp2_with (go_at_call 27; refine (KH.out _ B).mono ?_; rintro e w1 ⟨rfl, hb1⟩; refine Hid.out ?_)
        have Z1 := Z.mono hb1; have hB1 := Below.chain B hb1; have X1 := X.mono hb1
        have z0 := Z1.c0; have z1 := Z1.c1; have z2 := Z1.f0; have z3 := Z1.f1; have z4 := Z1.lt; have x0' := X1.c0; have x4' := X1.lt
        have q := box2 Z1.c0 Z1.c1 (.slice none 0 0) (.string ⟨#[]⟩)
        have HBB := Lib.hid (below2 (p := w.heap.size + 1) hB1 (by omega) (.slice none 0 0) (.string ⟨#[]⟩))
        clear hb1 X Z B Z1 hB1 X1
        refine Lib.hid ?_
        go_wp2
        obtain ⟨q1, q2⟩ := q
        refine bodyPost_ret (by simp [results, Tryz.results37, go_sem, q1, q2]; rfl) rfl ?_
        exact ⟨none, 0, rfl, RowB.nil _ _, HBB.out⟩
  · rw [if_neg h0]
    clear hr hz hn ht htn
    generalize l.length = nl at *
    generalize ts.length = nt at *
    rcases hcs with h | h | h | h
    · exact absurd h h0
    all_goals
      rw [h] at CH ⊢
      clear h h0
      have KH := Lib.hid CH; clear CH
      go_enter Tryz.func37, Tryz.ntmps37
      go_wp2_with (go_at_call 27; refine (KH.out _ B).mono ?_; rintro e w1 ⟨rfl, hb1⟩; refine Hid.out ?_)
      have Z1 := Z.mono hb1; have hB1 := Below.chain B hb1; have X1 := X.mono hb1
      have z0 := Z1.c0; have z1 := Z1.c1; have z2 := Z1.f0; have z3 := Z1.f1; have z4 := Z1.lt; have x0' := X1.c0; have x4' := X1.lt
      have q := box2 Z1.c0 Z1.c1 (.slice none 0 0) (.string ⟨#[]⟩)
      have HBB := Lib.hid (below2 (p := w.heap.size + 1) hB1 (by omega) (.slice none 0 0) (.string ⟨#[]⟩))
      clear hb1 X Z B Z1 hB1 X1
      refine Lib.hid ?_
      go_wp2
      obtain ⟨q1, q2⟩ := q
      refine bodyPost_ret (by simp [results, Tryz.results37, go_sem, q1, q2]; rfl) rfl ?_
      exact ⟨none, 0, rfl, RowB.nil _ _, HBB.out⟩
end Go.Proofs.YtjobmkdaaionlaaGreatDoor

/-
  linear: Rename in all cases.
-/
set_option linter.unusedSimpArgs false
namespace Go.Proofs.YtjobmkdaaionlaaGreatDoor
open Go Go.Proofs Go.RowKit

structure RnC (w W : World) (ao : Option Addr) (n c : Nat) (k : ByteArray) (tp : Option Addr) (nt tc : Nat) : Prop where
  x : Bx2 W w.heap.size (.slice ao n c) (.string k)
  t : Boxed W (w.heap.size + 1) 64 (.slice tp nt tc)
  r : Boxed2 W (w.heap.size + 1 + 1) 27 (.slice none 0 0) (.string ⟨#[]⟩)
  b : Below w.heap.size w W
theorem RnC.mono {w W W' : World} {ao : Option Addr} {n c : Nat} {k : ByteArray} {tp : Option Addr} {nt tc : Nat} (h : RnC w W ao n c k tp nt tc) (g : Below W.heap.size W W') : RnC w W' ao n c k tp nt tc :=
  ⟨h.x.mono g, boxed_below h.t g, boxed2_below h.r g, Below.chain h.b g⟩
theorem RnC.new (w : World) (ao : Option Addr) (n c : Nat) (k : ByteArray) (tp : Option Addr) (nt tc : Nat) :
    RnC w (((w.alloc (Obj.cells #[.slice ao n c, .string k] 27)).alloc (Obj.cells #[.slice tp nt tc] 64)).alloc (Obj.cells #[.slice none 0 0, .string ⟨#[]⟩] 27)) ao n c k tp nt tc := by
  have h1 := Bx2.new w (.slice ao n c) (.string k) 27
  have h2 := Boxed.new (w.alloc (Obj.cells #[.slice ao n c, .string k] 27)) 64 (.slice tp nt tc)
  have h3 := Boxed2.new ((w.alloc (Obj.cells #[.slice ao n c, .string k] 27)).alloc (Obj.cells #[.slice tp nt tc] 64)) 27 (.slice none 0 0) (.string ⟨#[]⟩)
  simp only [World.size_alloc] at h2 h3
  exact ⟨(h1.over _).over _, h2.alloc _, h3, (((Below.refl _ _).alloc (Nat.le_refl _) _).alloc (by simp) _).alloc (by simp; omega) _⟩

set_option maxRecDepth 20000 in
set_option maxHeartbeats 8000000 in
theorem linRename (l : List ByteArray) (k : ByteArray) (ao : Option Addr) (c : Nat) (ts : List Int) (tp : Option Addr) (tc : Nat) (n : Int) (w : World)
    (hr : SRow w ao c l) (hz : ∀ s ∈ l ++ [k], s.size ≤ 1200000) (hn : l.length ≤ 1200000) (ht : IRow w tp tc ts) (htn : ts.length ≤ 1200000) (htab : Lib.TabIs Tryz.prog w "internal/strconv.uint64pow10" .u64 Lib.pow10Tab) :
    Calls Tryz.prog 36 #[.agg #[.slice ao l.length c, .string k], .slice tp ts.length tc, .int .i64 n] w (LinRet w.heap.size (renO l k ts n) w) := by
  have hT := Lib.tabBelow_of_tabIs htab
  have CH := fun (W : World) (hW : Below w.heap.size w W) => linCheck l k ao c W (hr.mono hW) hz hn (hT.on hW).here
  have CS := fun (W : World) => isSize_any n W
  have hcs := linE_cases l k
  have V0 := RnC.new w ao l.length c k tp ts.length tc
  have hren : renO l k ts n = if linE l k = 0 then (if sizeB n = true then (if ts.length = l.length then (if ts.all (inB n) = true then exprO (movL l ts n.toNat (nz l)) k else .bad 6) else .bad 15) else .bad 2) else .bad (linE l k) := rfl
  rw [hren]
  clear hren
  by_cases h0 : linE l k = 0
  · rw [if_pos h0]
    by_cases hs : sizeB n = true
    · rw [if_pos hs]
      obtain ⟨m, rfl⟩ : ∃ m : Nat, n = (m : Int) := by unfold sizeB at hs; simp at hs; exact ⟨n.toNat, by omega⟩
      have hm : m ≤ 32 := by unfold sizeB at hs; simp at hs; omega
      rw [Int.toNat_natCast]
      by_cases hlen : ts.length = l.length
      · rw [if_pos hlen]
        by_cases hall : ts.all (inB (m : Int)) = true
        · rw [if_pos hall]
          have hin : ∀ t ∈ ts, 0 ≤ t ∧ t < (m : Int) := fun t h => inB_true (List.all_eq_true.1 hall t h)
          rw [hlen]
          exact linRename_good l k ao c ts tp tc m w hr hz hn ht h0 hm hlen hin htab
        · rw [if_neg hall]
          have htow : ∀ W, Below w.heap.size w W → ∀ j (hj : j < l.length), ∃ b off, tp = some ⟨b, off, none⟩ ∧ W.cell? ⟨b, off + j, none⟩ = some (.int .i64 (ts.getD j 0)) := fun W hW j hj => by
            obtain ⟨b, off, e, h1, h2⟩ := ht.get j (by omega)
            have e2 : ts.getD j 0 = ts[j]'(by omega) := by simp [show j < ts.length by omega]
            exact ⟨b, off, e, by rw [e2]; exact (hW.cell (p := ⟨b, off + j, none⟩) h1).trans h2⟩
          have hno : ¬ ∀ i, i < l.length → inB (m : Int) (ts.getD i 0) = true := fun h => hall (all_inB (fun i hi => h i (by omega)))
          rw [h0] at CH
          rw [hs] at CS
          rw [hlen] at V0 ⊢
          have KH := Lib.hid CH; have KS := Lib.hid CS; have HTOW := Lib.hid htow; have HNO := Lib.hid hno
          clear CH CS htow hno hr hz ht htn h0 hs hall hlen hT htab hcs
          generalize l.length = nl at *
          go_enter Tryz.func36, Tryz.ntmps36
          go_wp2_with (go_at_call 26; refine (KH.out _ V0.b).mono ?_; rintro e w1 ⟨rfl, hb1⟩; refine Hid.out ?_)
          have V1 := V0.mono hb1
          clear hb1 V0
          have x0 := V1.x.c0; have x4 := V1.x.lt; have p0 := V1.t.cell; have p4 := V1.t.lt
          refine Lib.hid ?_
          go_wp2_with (go_at_call 44; refine (KS.out _).mono ?_; rintro e w1 ⟨rfl, h⟩; subst h; refine Hid.out ?_)
          refine Lib.hid ?_
          have HV := Lib.hid V1; clear V1
          go_wp2_with fail
          go_loopw [35] (fun iv wr => ∃ j : Nat, j ≤ nl ∧ iv = .int .i64 (j : Int) ∧ wr = w1 ∧ ∀ i, i < j → inB (m : Int) (ts.getD i 0) = true) (fun iv _ => nl - (intOf iv).toNat)
          case atStart => exact ⟨0, Nat.zero_le _, rfl, rfl, fun i h => absurd h (Nat.not_lt_zero i)⟩
          case round =>
            obtain ⟨j, hj, rfl, hwr, hpre⟩ := hrel
            obtain hwr2 : w1 = wr := hwr.symm
            clear hwr
            subst hwr2
            by_cases hlt : j < nl
            · obtain ⟨tb, tof, rfl, hct⟩ := HTOW.out w1 HV.out.b j hlt
              have hj0 : (0 : Int) ≤ (j : Int) := by omega
              have hj1 : (j : Int) < (nl : Int) := by omega
              cases hq : inB (m : Int) (ts.getD j 0)
              · have hbad := inB_false hq
                clear hpre hq
                generalize ts.getD j 0 = t at *
                by_cases hd0 : t < 0
                · have hd1 : decide (t < 0) = true := by simpa using hd0
                  clear hbad
                  have V1 := HV.out
                  have z0 := V1.r.bx.c0; have z1 := V1.r.bx.c1; have z2 := V1.r.bx.f0; have z3 := V1.r.bx.f1; have z4 := V1.r.bx.lt
                  have q := box2 V1.r.bx.c0 V1.r.bx.c1 (.slice none 0 0) (.string ⟨#[]⟩)
                  have HBB := Lib.hid (below2 (p := w.heap.size + 1 + 1) V1.b (by omega) (.slice none 0 0) (.string ⟨#[]⟩))
                  clear V1
                  go_wp2
                  obtain ⟨q1, q2⟩ := q
                  refine bodyPost_ret (by simp [results, Tryz.results36, go_sem, q1, q2]; rfl) rfl ?_
                  exact ⟨none, 0, rfl, RowB.nil _ _, HBB.out⟩
                · have hd1 : decide (t < 0) = false := by simpa using hd0
                  have hd2 : decide ((m : Int) ≤ t) = true := by simp; omega
                  clear hbad
                  have V1 := HV.out
                  have z0 := V1.r.bx.c0; have z1 := V1.r.bx.c1; have z2 := V1.r.bx.f0; have z3 := V1.r.bx.f1; have z4 := V1.r.bx.lt
                  have q := box2 V1.r.bx.c0 V1.r.bx.c1 (.slice none 0 0) (.string ⟨#[]⟩)
                  have HBB := Lib.hid (below2 (p := w.heap.size + 1 + 1) V1.b (by omega) (.slice none 0 0) (.string ⟨#[]⟩))
                  clear V1
                  go_wp2
                  obtain ⟨q1, q2⟩ := q
                  refine bodyPost_ret (by simp [results, Tryz.results36, go_sem, q1, q2]; rfl) rfl ?_
                  exact ⟨none, 0, rfl, RowB.nil _ _, HBB.out⟩
              · obtain ⟨hi1, hi2⟩ := inB_true hq
                have hpre2 : ∀ i, i < j + 1 → inB (m : Int) (ts.getD i 0) = true := fun i hi => by
                  rcases Nat.lt_or_ge i j with h | h
                  · exact hpre i h
                  · rw [show i = j by omega]; exact hq
                have HP := Lib.hid hpre2
                clear hpre hq hpre2
                generalize hgt : ts.getD j 0 = t at *
                have hd1 : decide (t < 0) = false := by simp; omega
                have hd2 : decide ((m : Int) ≤ t) = false := by simp; omega
                clear hgt
                go_wp2
                go_roundw
                case rel => exact ⟨j + 1, by omega, by go_num, by first | rfl | trivial, HP.out⟩
                case measure => simp [intOf]; omega
            · exact absurd (fun i hi => hpre i (by omega)) HNO.out
      · rw [if_neg hlen]
        rw [h0] at CH
        rw [hs] at CS
        have KH := Lib.hid CH; have KS := Lib.hid CS
        have hlen2 : ¬ ((ts.length : Int) = (l.length : Int)) := by omega
        have hlen3 : ¬ ((l.length : Int) = (ts.length : Int)) := by omega
        clear CH CS hr hz hn ht htn h0 hs hT htab hcs
        generalize ts.length = nt at *
        generalize l.length = nl at *
        go_enter Tryz.func36, Tryz.ntmps36
        go_wp2_with (go_at_call 26; refine (KH.out _ V0.b).mono ?_; rintro e w1 ⟨rfl, hb1⟩; refine Hid.out ?_)
        have V1 := V0.mono hb1
        clear hb1 V0
        have x0 := V1.x.c0; have x4 := V1.x.lt; have p0 := V1.t.cell; have p4 := V1.t.lt
        refine Lib.hid ?_
        go_wp2_with (go_at_call 44; refine (KS.out _).mono ?_; rintro e w1 ⟨rfl, h⟩; subst h; refine Hid.out ?_)
        refine Lib.hid ?_
        have z0 := V1.r.bx.c0; have z1 := V1.r.bx.c1; have z2 := V1.r.bx.f0; have z3 := V1.r.bx.f1; have z4 := V1.r.bx.lt
        have q := box2 V1.r.bx.c0 V1.r.bx.c1 (.slice none 0 0) (.string ⟨#[]⟩)
        have HBB := Lib.hid (below2 (p := w.heap.size + 1 + 1) V1.b (by omega) (.slice none 0 0) (.string ⟨#[]⟩))
        clear V1
        go_wp2
        obtain ⟨q1, q2⟩ := q
        refine bodyPost_ret (by simp [results, Tryz.results36, go_sem, q1, q2]; rfl) rfl ?_
        exact ⟨none, 0, rfl, RowB.nil _ _, HBB.out⟩
    · rw [if_neg hs]
      rw [h0] at CH
      rw [show sizeB n = false by simpa using hs] at CS
      have KH := Lib.hid CH; have KS := Lib.hid CS
      clear CH CS hr hz hn ht htn h0 hT htab hcs hs
      generalize l.length = nl at *
      generalize ts.length = nt at *
      go_enter Tryz.func36, Tryz.ntmps36
      go_wp2_with (go_at_call 26; refine (KH.out _ V0.b).mono ?_; rintro e w1 ⟨rfl, hb1⟩; refine Hid.out ?_)
      have V1 := V0.mono hb1
      clear hb1 V0
      have x0 := V1.x.c0; have x4 := V1.x.lt; have p0 := V1.t.cell; have p4 := V1.t.lt
      refine Lib.hid ?_
      go_wp2_with (go_at_call 44; refine (KS.out _).mono ?_; rintro e w1 ⟨rfl, h⟩; subst h; refine Hid.out ?_)
      refine Lib.hid ?_
      have z0 := V1.r.bx.c0; have z1 := V1.r.bx.c1; have z2 := V1.r.bx.f0; have z3 := V1.r.bx.f1; have z4 := V1.r.bx.lt
      have q := box2 V1.r.bx.c0 V1.r.bx.c1 (.slice none 0 0) (.string ⟨#[]⟩)
      have HBB := Lib.hid (below2 (p := w.heap.size + 1 + 1) V1.b (by omega) (.slice none 0 0) (.string ⟨#[]⟩))
      clear V1
      go_wp2
      obtain ⟨q1, q2⟩ := q
      refine bodyPost_ret (by simp [results, Tryz.results36, go_sem, q1, q2]; rfl) rfl ?_
      exact ⟨none, 0, rfl, RowB.nil _ _, HBB.out⟩
  · rw [if_neg h0]
    clear hr hz hn ht htn CS hT htab
    generalize l.length = nl at *
    generalize ts.length = nt at *
    rcases hcs with h | h | h | h
    · exact absurd h h0
    all_goals
      rw [h] at CH ⊢
      clear h h0
      have KH := Lib.hid CH; clear CH
      go_enter Tryz.func36, Tryz.ntmps36
      go_wp2_with (go_at_call 26; refine (KH.out _ V0.b).mono ?_; rintro e w1 ⟨rfl, hb1⟩; refine Hid.out ?_)
      have V1 := V0.mono hb1
      clear hb1 V0
      have x0 := V1.x.c0; have x4 := V1.x.lt; have p0 := V1.t.cell; have p4 := V1.t.lt
      refine Lib.hid ?_
      have z0 := V1.r.bx.c0; have z1 := V1.r.bx.c1; have z2 := V1.r.bx.f0; have z3 := V1.r.bx.f1; have z4 := V1.r.bx.lt
      have q := box2 V1.r.bx.c0 V1.r.bx.c1 (.slice none 0 0) (.string ⟨#[]⟩)
      have HBB := Lib.hid (below2 (p := w.heap.size + 1 + 1) V1.b (by omega) (.slice none 0 0) (.string ⟨#[]⟩))
      clear V1
      go_wp2
      obtain ⟨q1, q2⟩ := q
      refine bodyPost_ret (by simp [results, Tryz.results36, go_sem, q1, q2]; rfl) rfl ?_
      exact ⟨none, 0, rfl, RowB.nil _ _, HBB.out⟩
end Go.Proofs.YtjobmkdaaionlaaGreatDoor

