import Derived.Test.YtjobmkdaaionlaaGreatDoorCut36
import Derived.Test.YtjobmkdaaionlaaGreatDoorCut35
import Derived.Test.YtjobmkdaaionlaaGreatDoorSm1
import Derived.Test.YtjobmkdaaionlaaGreatDoorCut33
import Derived.Deep.AppendLies
import Derived.Test.YtjobmkdaaionlaaGreatDoorCut31
import Derived.Test.YtjobmkdaaionlaaGreatDoorCut32

set_option linter.unusedVariables false
/-
  linear: the reference's Times and Plus of expressions.
-/
set_option linter.unusedSimpArgs false
namespace Go.Proofs.YtjobmkdaaionlaaGreatDoor
open Go Go.Proofs Go.RowKit

/-- An element that is appended to an own row, as a step of a region that draws. -/
theorem step_append_row {ops : Array Oper} {o : Oper} {a : Act} {W : World} {K : Act → World → Prop} {Q : Exit → Act → World → Prop} {E : Prop}
    (hg : o.guard = none) (s x : Operand) (hop : o.op = Op.call { callee := Callee.builtin Builtin.append, args := #[s, x], argTypes := #[25, 25] })
    (base : Nat) (v : Value) (n : Nat) (l : List ByteArray) (hn : l.length = n) (hs : a.eval s = v) (hown : W.ownsRow base 22 1 v n (strCells l)) (hl : n ≤ 1200000) (hbase : base ≤ W.heap.size)
    (ad : Nat) (k : ByteArray) (hx : a.eval x = .slice (some ⟨ad, 0, none⟩) 1 1) (hc : W.cell? ⟨ad, 0, none⟩ = some (.string k))
    (hK : ∀ (g cap : Nat) (w9 : World), w9.ownsRow base 22 1 (.slice (some ⟨g, 0, none⟩) (n + 1) cap) (n + 1) (strCells (l ++ [k])) → Below base W w9 → K (a.put o.dst (.slice (some ⟨g, 0, none⟩) (n + 1) cap)) w9) :
    if Region.wanted o (yielded ops a.tmps) = true then Oper.wp Tryz.prog o a W K Q else E := by
  obtain ⟨i0, hi, hz0, hz1, hz2⟩ := info_parts infoRat
  refine step_append_lies W hg s x 25 hop base 22 i0 (.string ⟨#[]⟩) 1 16 Tryz.underlying25 hi hz0 hz1 hz2 rfl (by decide) v n (strCells l) hs hown ⟨ad, 0, none⟩ 1 1 [.string k] hx rfl ?_ (by intro u hu; simp at hu; subst hu; rfl) (by decide) (by unfold maxLen; omega) (by omega) hbase _ rfl ?_
  · intro j u hu
    match j, hu with
    | 0, hu => simp at hu; subst hu; rw [addr_zero]; exact hc
  · intro g cap w9 hown9 hgrow _ hg9
    rw [show strCells l ++ [Value.string k] = strCells (l ++ [k]) from (strCells_append l [k]).symm] at hown9
    exact hK g cap w9 hown9 ((Below.refl _ _).grown hgrow hbase (fun k hk => (hown.lt k hk).1))
theorem range_snoc (g : Nat → ByteArray) (j : Nat) : (List.range j).map g ++ [g j] = (List.range (j + 1)).map g := by simp [List.range_succ]
theorem range_len (g : Nat → ByteArray) (j : Nat) : ((List.range j).map g).length = j := by simp

set_option maxRecDepth 20000 in
set_option maxHeartbeats 4000000 in
theorem refTimesL (l : List ByteArray) (k x : ByteArray) (ao : Option Addr) (c i m : Nat) (w : World) (hr : SRow w ao c l) (hn : l.length ≤ 1000) (hg : ∀ s ∈ l ++ [k], Good i s) (hx : Good m x) (hi : 0 < i) (hm : 0 < m) (hik : i ≤ 20000) (hmk : m ≤ 20000) :
    Calls Tryz.prog 69 #[.agg #[.slice ao l.length c, .string k], .string x] w (OutRet (w.heap.size + 2) (l.map fun s => mulT s x) (mulT k x) w) := by
  have CK := fun W => timesG (hg k (by simp)) hx hi hm hik hmk W
  have CE : ∀ (j : Nat) (hj : j < l.length) (W : World), Calls Tryz.prog 97 #[.string (l[j]'hj), .string x] W (Bret (.string (mulT (l.getD j ⟨#[]⟩) x)) W) := fun j hj W => by
    rw [getD_get l hj]
    exact timesG (hg _ (List.mem_append_left _ (List.getElem_mem hj))) hx hi hm hik hmk W
  rw [← map_range_getD l (fun s => mulT s x)]
  generalize hf : (fun j => mulT (l.getD j ⟨#[]⟩) x) = f
  have CE' : ∀ (j : Nat) (hj : j < l.length) (W : World), Calls Tryz.prog 97 #[.string (l[j]'hj), .string x] W (Bret (.string (f j)) W) := fun j hj W => by subst hf; exact CE j hj W
  obtain ⟨X0, Z0, B0⟩ := entryAB w (.slice ao l.length c) (.string k) (.slice none 0 0) (.string ⟨#[]⟩) 27
  have hrow : ∀ W, Below w.heap.size w W → ∀ j (hj : j < l.length), ∃ b off, ao = some ⟨b, off, none⟩ ∧ b < W.heap.size ∧ W.cell? ⟨b, off + j, none⟩ = some (.string (l[j]'hj)) := fun W hW => (hr.mono hW).get
  have HROW := Lib.hid hrow; have KK := Lib.hid CK; have KE := Lib.hid CE'
  clear hrow CK CE CE' hr hg hx hf
  generalize mulT k x = y at *
  go_enter Tryz.func69, Tryz.ntmps69
  have x0 := X0.c0; have x1 := X0.c1; have x4 := X0.lt
  go_wp2_with (go_at_call 97; refine (KK.out _).mono ?_; rintro e w1 ⟨rfl, hb1⟩; refine Hid.out ?_)
  have X1 := X0.mono hb1; have Z1 := Z0.mono hb1; have B1 := Below.chain B0 hb1
  have hb5 : w.heap.size + 2 ≤ w1.heap.size := by have := Z1.lt; omega
  clear hb1 x0 x1 x4 X0 Z0 B0
  refine Lib.hid ?_
  go_wp2_with fail
  have N1 := nb (Below.refl w1.heap.size w1) (Obj.cells #[.slice none 0 0, .string y] 27)
  have X2 := X1.mono N1; have Z2 := Z1.mono N1; have B2 := Below.chain B1 N1
  have O2 := OutL.new w1 y 27
  clear X1 Z1 B1 N1
  generalize w1.alloc (Obj.cells #[.slice none 0 0, .string y] 27) = W2 at *
  generalize hb : w1.heap.size = b5 at *
  clear hb
  go_loopw [6] (fun iv wr => ∃ (j : Nat) (a2 : Option Addr) (c2 : Nat), j ≤ l.length ∧ iv = .int .i64 (j : Int) ∧ Bx2 wr w.heap.size (.slice ao l.length c) (.string k) ∧ Bx2 wr (w.heap.size + 1) (.slice none 0 0) (.string ⟨#[]⟩) ∧ OutL wr b5 a2 c2 ((List.range j).map f) y ∧ Below w.heap.size w wr) (fun iv _ => l.length - (intOf iv).toNat)
  case atStart => exact ⟨0, none, 0, Nat.zero_le _, rfl, X2, Z2, O2, B2⟩
  case round =>
    obtain ⟨j, a2, c2, hj, rfl, hx, hz, ho, hB⟩ := hrel
    clear X2 Z2 O2 B2
    by_cases hlt : j < l.length
    · obtain ⟨b, off, rfl, hbw, -⟩ := HROW.out w (Below.refl _ _) j hlt
      obtain ⟨b', off', e', hbl, hcl⟩ := HROW.out wr hB j hlt
      cases e'
      have CA := KE.out j hlt
      have hlen := range_len f j
      generalize l[j]'hlt = sj at *
      have hj0 : (0 : Int) ≤ (j : Int) := by omega
      have hj1 : (j : Int) < (l.length : Int) := by omega
      have x0 := hx.c0; have x4 := hx.lt
      have KCA := Lib.hid CA
      have KST : ∀ W, Below wr.heap.size wr W → ((W.cell? ⟨w.heap.size, 0, none⟩ = some (.slice (some ⟨b, off, none⟩) l.length c) ∧ W.cell? ⟨b, off + j, none⟩ = some (.string sj)) ∧ W.cell? ⟨b5, 0, none⟩ = some (.slice a2 j c2)) := fun W hW => ⟨⟨(hx.mono hW).c0, (hW.cell (p := ⟨b, off + j, none⟩) hbl).trans hcl⟩, by have := (ho.mono hW).bx.c0; rwa [hlen] at this⟩
      have HST := Lib.hid KST
      have KS9 : ∀ W W', Below wr.heap.size wr W → Below (b5 + 1) W W' → ((W'.cell? ⟨w.heap.size, 0, none⟩ = some (.slice (some ⟨b, off, none⟩) l.length c) ∧ W'.cell? ⟨b, off + j, none⟩ = some (.string sj)) ∧ W'.cell? ⟨b5, 0, none⟩ = some (.slice a2 j c2)) := fun W W' hW h9 => by
        obtain ⟨⟨h1, h2⟩, h3⟩ := KST W hW
        exact ⟨⟨(h9.cell (p := ⟨w.heap.size, 0, none⟩) (by dsimp only; omega)).trans h1, (h9.cell (p := ⟨b, off + j, none⟩) (by dsimp only; omega)).trans h2⟩, (h9.cell (p := ⟨b5, 0, none⟩) (by dsimp only; omega)).trans h3⟩
      have HS9 := Lib.hid KS9
      have KOW : ∀ W, Below wr.heap.size wr W → W.ownsRow (b5 + 1) 22 1 (.slice a2 j c2) j (strCells ((List.range j).map f)) := fun W hW => by have := (ho.mono hW).own; rwa [hlen] at this
      have HOW := Lib.hid KOW
      have hbs : b5 + 1 ≤ wr.heap.size := ho.bx.lt
      have HX := Lib.hid hx; have HZ := Lib.hid hz; have HO := Lib.hid ho; have HB := Lib.hid hB
      clear CA KST KS9 KOW hx hz ho hB hcl
      go_wp2_with fail
      have hD : Below wr.heap.size wr wr.drew := (Below.refl _ _).drew
      clear x0 x4
      refine wp_region_hot (fun j => j == 12) (fun w' => ((w'.cell? ⟨w.heap.size, 0, none⟩ = some (.slice (some ⟨b, off, none⟩) l.length c) ∧ w'.cell? ⟨b, off + j, none⟩ = some (.string sj)) ∧ w'.cell? ⟨b5, 0, none⟩ = some (.slice a2 j c2))) (by kernel_rfl) (HST.out _ hD) (fun hHeld => ?_)
      refine hot_take (i := 0) (oi := { dst := some 19, op := Op.fieldAddr 27 (Operand.tmp 5) 0, type := 0, pos := "ref.go:106", after := #[], guard := none }) (v := ?v0) rfl (by kernel_rfl) (by kernel_rfl) (by kernel_rfl) rfl (by kernel_rfl) (by kernel_rfl) (fun _ _ _ h => h) (Or.inl ⟨by rfl, ?h0⟩) (by assumption) ?r0
      case h0 => (intro w hSw; (try dsimp only at hSw); go_simp; try with_reducible rfl)
      (try simp only [Act.put, List.setIfInBounds_toArray, List.set_cons_zero, List.set_cons_succ])
      refine hot_take (i := 1) (oi := { dst := some 20, op := Op.load 25 (Operand.tmp 19), type := 25, pos := "ref.go:106", after := #[{ on := 0, ground := Ground.data }], guard := none }) (v := ?v1) rfl (by kernel_rfl) (by kernel_rfl) (by kernel_rfl) rfl (by kernel_rfl) (by kernel_rfl) (fun _ _ _ h => h) (Or.inl ⟨by rfl, ?h1⟩) (by assumption) ?r1
      case h1 => (intro w hSw; (try dsimp only at hSw); go_simp; try with_reducible rfl)
      (try simp only [Act.put, List.setIfInBounds_toArray, List.set_cons_zero, List.set_cons_succ])
      refine hot_take (i := 2) (oi := { dst := some 21, op := Op.fieldAddr 27 (Operand.tmp 2) 0, type := 0, pos := "ref.go:106", after := #[], guard := none }) (v := ?v2) rfl (by kernel_rfl) (by kernel_rfl) (by kernel_rfl) rfl (by kernel_rfl) (by kernel_rfl) (fun _ _ _ h => h) (Or.inl ⟨by rfl, ?h2⟩) (by assumption) ?r2
      case h2 => (intro w hSw; (try dsimp only at hSw); go_simp; try with_reducible rfl)
      (try simp only [Act.put, List.setIfInBounds_toArray, List.set_cons_zero, List.set_cons_succ])
      refine hot_take (i := 3) (oi := { dst := some 22, op := Op.load 25 (Operand.tmp 21), type := 25, pos := "ref.go:106", after := #[{ on := 2, ground := Ground.data }], guard := none }) (v := ?v3) rfl (by kernel_rfl) (by kernel_rfl) (by kernel_rfl) rfl (by kernel_rfl) (by kernel_rfl) (fun _ _ _ h => h) (Or.inl ⟨by rfl, ?h3⟩) (by assumption) ?r3
      case h3 => (intro w hSw; (try dsimp only at hSw); go_simp; try with_reducible rfl)
      (try simp only [Act.put, List.setIfInBounds_toArray, List.set_cons_zero, List.set_cons_succ])
      refine hot_take (i := 4) (oi := { dst := some 23, op := Op.move (Operand.tmp 6), type := 3, pos := "ref.go:106", after := #[], guard := none }) (v := ?v4) rfl (by kernel_rfl) (by kernel_rfl) (by kernel_rfl) rfl (by kernel_rfl) (by kernel_rfl) (fun _ _ _ h => h) (Or.inl ⟨by rfl, ?h4⟩) (by assumption) ?r4
      case h4 => (intro w hSw; (try dsimp only at hSw); go_simp; try with_reducible rfl)
      (try simp only [Act.put, List.setIfInBounds_toArray, List.set_cons_zero, List.set_cons_succ])
      refine hot_take (i := 5) (oi := { dst := some 24, op := Op.indexAddr 25 (Operand.tmp 22) (Operand.tmp 23), type := 0, pos := "ref.go:106", after := #[{ on := 3, ground := Ground.data }, { on := 4, ground := Ground.data }], guard := none }) (v := ?v5) rfl (by kernel_rfl) (by kernel_rfl) (by kernel_rfl) rfl (by kernel_rfl) (by kernel_rfl) (fun _ _ _ h => h) (Or.inl ⟨by rfl, ?h5⟩) (by assumption) ?r5
      case h5 => (intro w hSw; (try dsimp only at hSw); go_simp; try with_reducible rfl)
      (try simp only [Act.put, List.setIfInBounds_toArray, List.set_cons_zero, List.set_cons_succ])
      refine hot_take (i := 6) (oi := { dst := some 25, op := Op.load 22 (Operand.tmp 24), type := 22, pos := "ref.go:106", after := #[{ on := 5, ground := Ground.data }], guard := none }) (v := ?v6) rfl (by kernel_rfl) (by kernel_rfl) (by kernel_rfl) rfl (by kernel_rfl) (by kernel_rfl) (fun _ _ _ h => h) (Or.inl ⟨by rfl, ?h6⟩) (by assumption) ?r6
      case h6 => (intro w hSw; (try dsimp only at hSw); go_simp; try with_reducible rfl)
      (try simp only [Act.put, List.setIfInBounds_toArray, List.set_cons_zero, List.set_cons_succ])
      refine hot_take (i := 7) (oi := { dst := some 26, op := Op.move (Operand.tmp 1), type := 22, pos := "ref.go:106", after := #[], guard := none }) (v := ?v7) rfl (by kernel_rfl) (by kernel_rfl) (by kernel_rfl) rfl (by kernel_rfl) (by kernel_rfl) (fun _ _ _ h => h) (Or.inl ⟨by rfl, ?h7⟩) (by assumption) ?r7
      case h7 => (intro w hSw; (try dsimp only at hSw); go_simp; try with_reducible rfl)
      (try simp only [Act.put, List.setIfInBounds_toArray, List.set_cons_zero, List.set_cons_succ])
      refine hot_one (i := 8) (oi := { dst := some 27, op := Op.call { callee := Callee.value (Operand.func 97), args := #[Operand.tmp 25, Operand.tmp 26], argTypes := #[22, 22] }, type := 22, pos := "ref.go:106", after := #[{ on := 6, ground := Ground.data }, { on := 7, ground := Ground.data }], guard := none }) rfl (by kernel_rfl) (fun K hK => ?_)
      go_simp
      go_wp2_with (go_at_call 97; refine (KCA.out _).mono ?_; rintro e v1 ⟨rfl, hc1⟩)
      have hB1 : Below wr.heap.size wr v1 := Below.chain hD hc1
      have hHeld := HST.out _ hB1
      refine hK.out _ _ (fun _ => hHeld) ?_
      clear hK K
      (try simp only [Act.put, List.setIfInBounds_toArray, List.set_cons_zero, List.set_cons_succ])
      refine hot_one (i := 9) (oi := { dst := some 28, op := Op.buildSlice 25 1 #[(0, Operand.tmp 27)], type := 25, pos := "ref.go:106", after := #[{ on := 8, ground := Ground.data }], guard := none }) rfl (by kernel_rfl) (fun K hK => ?_)
      go_simp
      have hHeld := HST.out _ (nb hB1 (Obj.cells #[.string (f j)] 22))
      refine hK.out _ _ (fun _ => hHeld) ?_
      clear hK K
      (try simp only [Act.put, List.setIfInBounds_toArray, List.set_cons_zero, List.set_cons_succ])
      refine hot_one (i := 10) (oi := { dst := some 29, op := Op.call { callee := Callee.builtin Builtin.append, args := #[Operand.tmp 20, Operand.tmp 28], argTypes := #[25, 25] }, type := 25, pos := "ref.go:106", after := #[{ on := 1, ground := Ground.data }, { on := 9, ground := Ground.data }, { on := 8, ground := Ground.chain }], guard := none }) rfl (by kernel_rfl) (fun K hK => ?_)
      refine step_append_row rfl (.tmp 20) (.tmp 28) rfl (b5 + 1) _ j ((List.range j).map f) hlen (by simp [Act.eval, Act.put]) (HOW.out _ (nb hB1 _)) (by omega) (Nat.le_trans hbs (nb hB1 _).size) v1.heap.size (f j) (by simp [Act.eval, Act.put]) (allocN v1 _ _) ?_
      intro g cap w9 hown9 hb9
      have hHeld := HS9.out _ _ (nb hB1 (Obj.cells #[.string (f j)] 22)) hb9
      refine hK.out _ _ (fun _ => hHeld) ?_
      clear hK K
      (try simp only [Act.put, List.setIfInBounds_toArray, List.set_cons_zero, List.set_cons_succ])
      have q0 := ((HO.out.mono (nb hB1 _)).bx.low hb9 (Nat.lt_succ_self _)).c0
      have q1 := ((HO.out.mono (nb hB1 _)).bx.low hb9 (Nat.lt_succ_self _)).f0
      have q2 := ((HO.out.mono (nb hB1 _)).bx.low hb9 (Nat.lt_succ_self _)).lt
      refine hot_takeW (i := 11) (oi := { dst := some 30, op := Op.fieldAddr 27 (Operand.tmp 5) 0, type := 0, pos := "ref.go:106", after := #[{ on := 0, ground := Ground.phase }, { on := 1, ground := Ground.phase }, { on := 2, ground := Ground.phase }, { on := 3, ground := Ground.phase }, { on := 4, ground := Ground.phase }, { on := 5, ground := Ground.phase }, { on := 6, ground := Ground.phase }, { on := 7, ground := Ground.phase }, { on := 8, ground := Ground.phase }, { on := 9, ground := Ground.phase }, { on := 10, ground := Ground.phase }], guard := none }) (v := ?v11) rfl (by kernel_rfl) (by kernel_rfl) (by kernel_rfl) rfl (fun _ _ _ h => h) (Or.inl ⟨by rfl, ?h11⟩) (by assumption) ?r11
      case h11 => (intro w _; go_simp; try with_reducible rfl)
      (try simp only [Act.put, List.setIfInBounds_toArray, List.set_cons_zero, List.set_cons_succ])
      refine hot_one (i := 12) (oi := { dst := none, op := Op.store 25 (Operand.tmp 30) (Operand.tmp 29), type := 0, pos := "ref.go:106", after := #[{ on := 11, ground := Ground.data }, { on := 10, ground := Ground.data }, { on := 10, ground := Ground.chain }, { on := 0, ground := Ground.phase }, { on := 1, ground := Ground.phase }, { on := 2, ground := Ground.phase }, { on := 3, ground := Ground.phase }, { on := 4, ground := Ground.phase }, { on := 5, ground := Ground.phase }, { on := 6, ground := Ground.phase }, { on := 7, ground := Ground.phase }, { on := 8, ground := Ground.phase }, { on := 9, ground := Ground.phase }, { on := 10, ground := Ground.phase }], guard := none }) rfl (by kernel_rfl) (fun K hK => ?_)
      go_simp
      refine hK.out _ _ (fun h => by cases h) ?_
      clear hK K q0 q1 q2
      refine hot_done (by kernel_rfl) ?_ _
      have hown9' : w9.ownsRow (b5 + 1) 22 1 (.slice (some ⟨g, 0, none⟩) (((List.range j).map f).length + 1) cap) (((List.range j).map f).length + 1) (strCells (((List.range j).map f) ++ [f j])) := by rw [hlen]; exact hown9
      have N := (HO.out.mono (nb hB1 _)).next hown9' hb9
      rw [hlen, range_snoc] at N
      have X9 := ((HX.out.mono (nb hB1 _)).low hb9 (by omega)).set (g := b5) (by omega) 0 (.slice (some ⟨g, 0, none⟩) (j + 1) cap)
      have Z9 := ((HZ.out.mono (nb hB1 _)).low hb9 (by omega)).set (g := b5) (by omega) 0 (.slice (some ⟨g, 0, none⟩) (j + 1) cap)
      have B9 := (((Below.chain HB.out (nb hB1 _)).trans (hb9.mono (by omega))).setCell (p := ⟨b5, 0, none⟩) (by dsimp only; omega) (.slice (some ⟨g, 0, none⟩) (j + 1) cap))
      have HN := Lib.hid N; have HX9 := Lib.hid X9; have HZ9 := Lib.hid Z9; have HB9 := Lib.hid B9
      clear N X9 Z9 B9 hown9 hown9' hb9
      go_wp2
      go_roundw
      case rel => exact ⟨j + 1, _, cap, by omega, by go_num, HX9.out, HZ9.out, HN.out, HB9.out⟩
      case measure => simp [intOf]; omega
    · have hjn : j = l.length := by omega
      subst hjn
      have hlen := range_len f l.length
      have x0 := ho.bx.c0; have x1 := ho.bx.c1; have x2 := ho.bx.f0; have x3 := ho.bx.f1; have x4 := ho.bx.lt
      have y0 := hx.c0; have y4 := hx.lt
      have z0' := hz.c0; have z1 := hz.c1; have z2 := hz.f0; have z3 := hz.f1; have z4 := hz.lt
      have q := box2 hz.c0 hz.c1 (.slice a2 l.length c2) (.string y)
      have HBB := Lib.hid (below2 (p := w.heap.size + 1) hB (by omega) (.slice a2 l.length c2) (.string y))
      have ho2 := ownsRow_setCell_below (ownsRow_setCell_below ho.own (a := ⟨w.heap.size + 1, 0, none⟩) (by dsimp only; omega) (.slice a2 l.length c2)) (a := ⟨w.heap.size + 1, 1, none⟩) (by dsimp only; omega) (.string y)
      rw [hlen] at ho2 x0
      have HO := Lib.hid ho2
      obtain ⟨q1, q2⟩ := q
      clear ho2 ho hx hz hB
      go_wp2
      refine bodyPost_ret (v := .agg #[.slice a2 l.length c2, .string y]) (by simp [results, Tryz.results69, go_sem, q1, q2]) rfl ?_
      exact ⟨a2, c2, by rw [hlen], by rw [hlen]; exact owns_base HO.out (by omega), HBB.out⟩
end Go.Proofs.YtjobmkdaaionlaaGreatDoor

/-
  linear: the reference's Plus of expressions.
-/
set_option linter.unusedSimpArgs false
namespace Go.Proofs.YtjobmkdaaionlaaGreatDoor
open Go Go.Proofs Go.RowKit

set_option maxRecDepth 20000 in
set_option maxHeartbeats 4000000 in
theorem refPlusL (l : List ByteArray) (k : ByteArray) (ao : Option Addr) (c i : Nat) (m : List ByteArray) (k2 : ByteArray) (bo : Option Addr) (c3 i2 : Nat) (w : World) (hr : SRow w ao c l) (hr2 : SRow w bo c3 m) (hlm : m.length = l.length) (hn : l.length ≤ 1000)
    (hg : ∀ s ∈ l ++ [k], Good i s) (hg2 : ∀ s ∈ m ++ [k2], Good i2 s) (hi : 0 < i) (hi2 : 0 < i2) (hik : i ≤ 20000) (hik2 : i2 ≤ 20000) :
    Calls Tryz.prog 57 #[.agg #[.slice ao l.length c, .string k], .agg #[.slice bo m.length c3, .string k2]] w (OutRet (w.heap.size + 3) (List.zipWith addT l m) (addT k k2) w) := by
  have CK := fun W => plusG (hg k (by simp)) (hg2 k2 (by simp)) hi hi2 hik hik2 W
  have CE : ∀ (j : Nat) (hj : j < l.length) (W : World), Calls Tryz.prog 84 #[.string (l[j]'hj), .string (m[j]'(by omega))] W (Bret (.string (addT (l.getD j ⟨#[]⟩) (m.getD j ⟨#[]⟩))) W) := fun j hj W => by
    rw [getD_get l hj, getD_get m (by omega)]
    exact plusG (hg _ (List.mem_append_left _ (List.getElem_mem hj))) (hg2 _ (List.mem_append_left _ (List.getElem_mem (by omega)))) hi hi2 hik hik2 W
  rw [← zip_range_getD l m addT hlm.symm]
  generalize hf : (fun j => addT (l.getD j ⟨#[]⟩) (m.getD j ⟨#[]⟩)) = f
  have CE' : ∀ (j : Nat) (hj : j < l.length) (W : World), Calls Tryz.prog 84 #[.string (l[j]'hj), .string (m[j]'(by omega))] W (Bret (.string (f j)) W) := fun j hj W => by subst hf; exact CE j hj W
  have hrow : ∀ W, Below w.heap.size w W → ∀ j (hj : j < l.length), ∃ b off, ao = some ⟨b, off, none⟩ ∧ b < W.heap.size ∧ W.cell? ⟨b, off + j, none⟩ = some (.string (l[j]'hj)) := fun W hW => (hr.mono hW).get
  have hrow2 : ∀ W, Below w.heap.size w W → ∀ j (hj : j < m.length), ∃ b off, bo = some ⟨b, off, none⟩ ∧ b < W.heap.size ∧ W.cell? ⟨b, off + j, none⟩ = some (.string (m[j]'hj)) := fun W hW => (hr2.mono hW).get
  rw [hlm]
  obtain ⟨X0, Y0, Z0, B0⟩ := entry3 w (.slice ao l.length c) (.string k) (.slice bo l.length c3) (.string k2) (.slice none 0 0) (.string ⟨#[]⟩) 27
  have HROW := Lib.hid hrow; have HROW2 := Lib.hid hrow2; have KK := Lib.hid CK; have KE := Lib.hid CE'; have HLM := Lib.hid hlm
  clear hrow hrow2 CK CE CE' hr hr2 hg hg2 hf
  generalize addT k k2 = y at *
  go_enter Tryz.func57, Tryz.ntmps57
  have x0 := X0.c0; have x1 := X0.c1; have x4 := X0.lt; have y0 := Y0.c0; have y1 := Y0.c1; have y4 := Y0.lt
  go_wp2_with (go_at_call 84; refine (KK.out _).mono ?_; rintro e w1 ⟨rfl, hb1⟩; refine Hid.out ?_)
  have X1 := X0.mono hb1; have Y1 := Y0.mono hb1; have Z1 := Z0.mono hb1; have B1 := Below.chain B0 hb1
  have hb5 : w.heap.size + 3 ≤ w1.heap.size := by have := Z1.lt; omega
  clear hb1 x0 x1 x4 y0 y1 y4 X0 Y0 Z0 B0
  refine Lib.hid ?_
  go_wp2_with fail
  have N1 := nb (Below.refl w1.heap.size w1) (Obj.cells #[.slice none 0 0, .string y] 27)
  have X2 := X1.mono N1; have Y2 := Y1.mono N1; have Z2 := Z1.mono N1; have B2 := Below.chain B1 N1
  have O2 := OutL.new w1 y 27
  clear X1 Y1 Z1 B1 N1
  generalize w1.alloc (Obj.cells #[.slice none 0 0, .string y] 27) = W2 at *
  generalize hb : w1.heap.size = b5 at *
  clear hb
  go_loopw [6] (fun iv wr => ∃ (j : Nat) (a2 : Option Addr) (c2 : Nat), j ≤ l.length ∧ iv = .int .i64 (j : Int) ∧ Bx2 wr w.heap.size (.slice ao l.length c) (.string k) ∧ Bx2 wr (w.heap.size + 1) (.slice bo l.length c3) (.string k2) ∧ Bx2 wr (w.heap.size + 1 + 1) (.slice none 0 0) (.string ⟨#[]⟩) ∧ OutL wr b5 a2 c2 ((List.range j).map f) y ∧ Below w.heap.size w wr) (fun iv _ => l.length - (intOf iv).toNat)
  case atStart => exact ⟨0, none, 0, Nat.zero_le _, rfl, X2, Y2, Z2, O2, B2⟩
  case round =>
    obtain ⟨j, a2, c2, hj, rfl, hx, hy, hz, ho, hB⟩ := hrel
    clear X2 Y2 Z2 O2 B2
    by_cases hlt : j < l.length
    · have hlt2 : j < m.length := by rw [HLM.out]; exact hlt
      obtain ⟨b, off, rfl, hbw, -⟩ := HROW.out w (Below.refl _ _) j hlt
      obtain ⟨b', off', e', hbl, hcl⟩ := HROW.out wr hB j hlt
      cases e'
      obtain ⟨bb, off2, rfl, hbw2, -⟩ := HROW2.out w (Below.refl _ _) j hlt2
      obtain ⟨b', off', e', hbl2, hcl2⟩ := HROW2.out wr hB j hlt2
      cases e'
      have CA := KE.out j hlt
      have hlen := range_len f j
      generalize l[j]'hlt = sj at *
      generalize m[j]'hlt2 = tj at *
      have hj0 : (0 : Int) ≤ (j : Int) := by omega
      have hj1 : (j : Int) < (l.length : Int) := by omega
      have x0 := hx.c0; have x4 := hx.lt
      have KCA := Lib.hid CA
      have KST : ∀ W, Below wr.heap.size wr W → ((((W.cell? ⟨w.heap.size, 0, none⟩ = some (.slice (some ⟨b, off, none⟩) l.length c) ∧ W.cell? ⟨b, off + j, none⟩ = some (.string sj)) ∧ W.cell? ⟨w.heap.size + 1, 0, none⟩ = some (.slice (some ⟨bb, off2, none⟩) l.length c3)) ∧ W.cell? ⟨bb, off2 + j, none⟩ = some (.string tj)) ∧ W.cell? ⟨b5, 0, none⟩ = some (.slice a2 j c2)) := fun W hW => ⟨⟨⟨⟨(hx.mono hW).c0, (hW.cell (p := ⟨b, off + j, none⟩) hbl).trans hcl⟩, (hy.mono hW).c0⟩, (hW.cell (p := ⟨bb, off2 + j, none⟩) hbl2).trans hcl2⟩, by have := (ho.mono hW).bx.c0; rwa [hlen] at this⟩
      have HST := Lib.hid KST
      have KS9 : ∀ W W', Below wr.heap.size wr W → Below (b5 + 1) W W' → ((((W'.cell? ⟨w.heap.size, 0, none⟩ = some (.slice (some ⟨b, off, none⟩) l.length c) ∧ W'.cell? ⟨b, off + j, none⟩ = some (.string sj)) ∧ W'.cell? ⟨w.heap.size + 1, 0, none⟩ = some (.slice (some ⟨bb, off2, none⟩) l.length c3)) ∧ W'.cell? ⟨bb, off2 + j, none⟩ = some (.string tj)) ∧ W'.cell? ⟨b5, 0, none⟩ = some (.slice a2 j c2)) := fun W W' hW h9 => by
        obtain ⟨⟨⟨⟨h1, h2⟩, h4⟩, h5⟩, h3⟩ := KST W hW
        exact ⟨⟨⟨⟨(h9.cell (p := ⟨w.heap.size, 0, none⟩) (by dsimp only; omega)).trans h1, (h9.cell (p := ⟨b, off + j, none⟩) (by dsimp only; omega)).trans h2⟩, (h9.cell (p := ⟨w.heap.size + 1, 0, none⟩) (by dsimp only; omega)).trans h4⟩, (h9.cell (p := ⟨bb, off2 + j, none⟩) (by dsimp only; omega)).trans h5⟩, (h9.cell (p := ⟨b5, 0, none⟩) (by dsimp only; omega)).trans h3⟩
      have HS9 := Lib.hid KS9
      have KOW : ∀ W, Below wr.heap.size wr W → W.ownsRow (b5 + 1) 22 1 (.slice a2 j c2) j (strCells ((List.range j).map f)) := fun W hW => by have := (ho.mono hW).own; rwa [hlen] at this
      have HOW := Lib.hid KOW
      have hbs : b5 + 1 ≤ wr.heap.size := ho.bx.lt
      have HX := Lib.hid hx; have HY := Lib.hid hy; have HZ := Lib.hid hz; have HO := Lib.hid ho; have HB := Lib.hid hB
      clear CA KST KS9 KOW hx hy hz ho hB hcl hcl2
      go_wp2_with fail
      have hD : Below wr.heap.size wr wr.drew := (Below.refl _ _).drew
      clear x0 x4
      refine wp_region_hot (fun j => j == 16) (fun w' => ((((w'.cell? ⟨w.heap.size, 0, none⟩ = some (.slice (some ⟨b, off, none⟩) l.length c) ∧ w'.cell? ⟨b, off + j, none⟩ = some (.string sj)) ∧ w'.cell? ⟨w.heap.size + 1, 0, none⟩ = some (.slice (some ⟨bb, off2, none⟩) l.length c3)) ∧ w'.cell? ⟨bb, off2 + j, none⟩ = some (.string tj)) ∧ w'.cell? ⟨b5, 0, none⟩ = some (.slice a2 j c2))) (by kernel_rfl) (HST.out _ hD) (fun hHeld => ?_)
      refine hot_take (i := 0) (oi := { dst := some 20, op := Op.fieldAddr 27 (Operand.tmp 5) 0, type := 0, pos := "ref.go:97", after := #[], guard := none }) (v := ?v0) rfl (by kernel_rfl) (by kernel_rfl) (by kernel_rfl) rfl (by kernel_rfl) (by kernel_rfl) (fun _ _ _ h => h) (Or.inl ⟨by rfl, ?h0⟩) (by assumption) ?r0
      case h0 => (intro w hSw; (try dsimp only at hSw); go_simp; try with_reducible rfl)
      (try simp only [Act.put, List.setIfInBounds_toArray, List.set_cons_zero, List.set_cons_succ])
      refine hot_take (i := 1) (oi := { dst := some 21, op := Op.load 25 (Operand.tmp 20), type := 25, pos := "ref.go:97", after := #[{ on := 0, ground := Ground.data }], guard := none }) (v := ?v1) rfl (by kernel_rfl) (by kernel_rfl) (by kernel_rfl) rfl (by kernel_rfl) (by kernel_rfl) (fun _ _ _ h => h) (Or.inl ⟨by rfl, ?h1⟩) (by assumption) ?r1
      case h1 => (intro w hSw; (try dsimp only at hSw); go_simp; try with_reducible rfl)
      (try simp only [Act.put, List.setIfInBounds_toArray, List.set_cons_zero, List.set_cons_succ])
      refine hot_take (i := 2) (oi := { dst := some 22, op := Op.fieldAddr 27 (Operand.tmp 2) 0, type := 0, pos := "ref.go:97", after := #[], guard := none }) (v := ?v2) rfl (by kernel_rfl) (by kernel_rfl) (by kernel_rfl) rfl (by kernel_rfl) (by kernel_rfl) (fun _ _ _ h => h) (Or.inl ⟨by rfl, ?h2⟩) (by assumption) ?r2
      case h2 => (intro w hSw; (try dsimp only at hSw); go_simp; try with_reducible rfl)
      (try simp only [Act.put, List.setIfInBounds_toArray, List.set_cons_zero, List.set_cons_succ])
      refine hot_take (i := 3) (oi := { dst := some 23, op := Op.load 25 (Operand.tmp 22), type := 25, pos := "ref.go:97", after := #[{ on := 2, ground := Ground.data }], guard := none }) (v := ?v3) rfl (by kernel_rfl) (by kernel_rfl) (by kernel_rfl) rfl (by kernel_rfl) (by kernel_rfl) (fun _ _ _ h => h) (Or.inl ⟨by rfl, ?h3⟩) (by assumption) ?r3
      case h3 => (intro w hSw; (try dsimp only at hSw); go_simp; try with_reducible rfl)
      (try simp only [Act.put, List.setIfInBounds_toArray, List.set_cons_zero, List.set_cons_succ])
      refine hot_take (i := 4) (oi := { dst := some 24, op := Op.move (Operand.tmp 6), type := 3, pos := "ref.go:97", after := #[], guard := none }) (v := ?v4) rfl (by kernel_rfl) (by kernel_rfl) (by kernel_rfl) rfl (by kernel_rfl) (by kernel_rfl) (fun _ _ _ h => h) (Or.inl ⟨by rfl, ?h4⟩) (by assumption) ?r4
      case h4 => (intro w hSw; (try dsimp only at hSw); go_simp; try with_reducible rfl)
      (try simp only [Act.put, List.setIfInBounds_toArray, List.set_cons_zero, List.set_cons_succ])
      refine hot_take (i := 5) (oi := { dst := some 25, op := Op.indexAddr 25 (Operand.tmp 23) (Operand.tmp 24), type := 0, pos := "ref.go:97", after := #[{ on := 3, ground := Ground.data }, { on := 4, ground := Ground.data }], guard := none }) (v := ?v5) rfl (by kernel_rfl) (by kernel_rfl) (by kernel_rfl) rfl (by kernel_rfl) (by kernel_rfl) (fun _ _ _ h => h) (Or.inl ⟨by rfl, ?h5⟩) (by assumption) ?r5
      case h5 => (intro w hSw; (try dsimp only at hSw); go_simp; try with_reducible rfl)
      (try simp only [Act.put, List.setIfInBounds_toArray, List.set_cons_zero, List.set_cons_succ])
      refine hot_take (i := 6) (oi := { dst := some 26, op := Op.load 22 (Operand.tmp 25), type := 22, pos := "ref.go:97", after := #[{ on := 5, ground := Ground.data }], guard := none }) (v := ?v6) rfl (by kernel_rfl) (by kernel_rfl) (by kernel_rfl) rfl (by kernel_rfl) (by kernel_rfl) (fun _ _ _ h => h) (Or.inl ⟨by rfl, ?h6⟩) (by assumption) ?r6
      case h6 => (intro w hSw; (try dsimp only at hSw); go_simp; try with_reducible rfl)
      (try simp only [Act.put, List.setIfInBounds_toArray, List.set_cons_zero, List.set_cons_succ])
      refine hot_take (i := 7) (oi := { dst := some 27, op := Op.fieldAddr 27 (Operand.tmp 3) 0, type := 0, pos := "ref.go:97", after := #[], guard := none }) (v := ?v7) rfl (by kernel_rfl) (by kernel_rfl) (by kernel_rfl) rfl (by kernel_rfl) (by kernel_rfl) (fun _ _ _ h => h) (Or.inl ⟨by rfl, ?h7⟩) (by assumption) ?r7
      case h7 => (intro w hSw; (try dsimp only at hSw); go_simp; try with_reducible rfl)
      (try simp only [Act.put, List.setIfInBounds_toArray, List.set_cons_zero, List.set_cons_succ])
      refine hot_take (i := 8) (oi := { dst := some 28, op := Op.load 25 (Operand.tmp 27), type := 25, pos := "ref.go:97", after := #[{ on := 7, ground := Ground.data }], guard := none }) (v := ?v8) rfl (by kernel_rfl) (by kernel_rfl) (by kernel_rfl) rfl (by kernel_rfl) (by kernel_rfl) (fun _ _ _ h => h) (Or.inl ⟨by rfl, ?h8⟩) (by assumption) ?r8
      case h8 => (intro w hSw; (try dsimp only at hSw); go_simp; try with_reducible rfl)
      (try simp only [Act.put, List.setIfInBounds_toArray, List.set_cons_zero, List.set_cons_succ])
      refine hot_take (i := 9) (oi := { dst := some 29, op := Op.move (Operand.tmp 6), type := 3, pos := "ref.go:97", after := #[], guard := none }) (v := ?v9) rfl (by kernel_rfl) (by kernel_rfl) (by kernel_rfl) rfl (by kernel_rfl) (by kernel_rfl) (fun _ _ _ h => h) (Or.inl ⟨by rfl, ?h9⟩) (by assumption) ?r9
      case h9 => (intro w hSw; (try dsimp only at hSw); go_simp; try with_reducible rfl)
      (try simp only [Act.put, List.setIfInBounds_toArray, List.set_cons_zero, List.set_cons_succ])
      refine hot_take (i := 10) (oi := { dst := some 30, op := Op.indexAddr 25 (Operand.tmp 28) (Operand.tmp 29), type := 0, pos := "ref.go:97", after := #[{ on := 8, ground := Ground.data }, { on := 9, ground := Ground.data }], guard := none }) (v := ?v10) rfl (by kernel_rfl) (by kernel_rfl) (by kernel_rfl) rfl (by kernel_rfl) (by kernel_rfl) (fun _ _ _ h => h) (Or.inl ⟨by rfl, ?h10⟩) (by assumption) ?r10
      case h10 => (intro w hSw; (try dsimp only at hSw); go_simp; try with_reducible rfl)
      (try simp only [Act.put, List.setIfInBounds_toArray, List.set_cons_zero, List.set_cons_succ])
      refine hot_take (i := 11) (oi := { dst := some 31, op := Op.load 22 (Operand.tmp 30), type := 22, pos := "ref.go:97", after := #[{ on := 10, ground := Ground.data }], guard := none }) (v := ?v11) rfl (by kernel_rfl) (by kernel_rfl) (by kernel_rfl) rfl (by kernel_rfl) (by kernel_rfl) (fun _ _ _ h => h) (Or.inl ⟨by rfl, ?h11⟩) (by assumption) ?r11
      case h11 => (intro w hSw; (try dsimp only at hSw); go_simp; try with_reducible rfl)
      (try simp only [Act.put, List.setIfInBounds_toArray, List.set_cons_zero, List.set_cons_succ])
      refine hot_one (i := 12) (oi := { dst := some 32, op := Op.call { callee := Callee.value (Operand.func 84), args := #[Operand.tmp 26, Operand.tmp 31], argTypes := #[22, 22] }, type := 22, pos := "ref.go:97", after := #[{ on := 6, ground := Ground.data }, { on := 11, ground := Ground.data }], guard := none }) rfl (by kernel_rfl) (fun K hK => ?_)
      go_simp
      go_wp2_with (go_at_call 84; refine (KCA.out _).mono ?_; rintro e v1 ⟨rfl, hc1⟩)
      have hB1 : Below wr.heap.size wr v1 := Below.chain hD hc1
      have hHeld := HST.out _ hB1
      refine hK.out _ _ (fun _ => hHeld) ?_
      clear hK K
      (try simp only [Act.put, List.setIfInBounds_toArray, List.set_cons_zero, List.set_cons_succ])
      refine hot_one (i := 13) (oi := { dst := some 33, op := Op.buildSlice 25 1 #[(0, Operand.tmp 32)], type := 25, pos := "ref.go:97", after := #[{ on := 12, ground := Ground.data }], guard := none }) rfl (by kernel_rfl) (fun K hK => ?_)
      go_simp
      have hHeld := HST.out _ (nb hB1 (Obj.cells #[.string (f j)] 22))
      refine hK.out _ _ (fun _ => hHeld) ?_
      clear hK K
      (try simp only [Act.put, List.setIfInBounds_toArray, List.set_cons_zero, List.set_cons_succ])
      refine hot_one (i := 14) (oi := { dst := some 34, op := Op.call { callee := Callee.builtin Builtin.append, args := #[Operand.tmp 21, Operand.tmp 33], argTypes := #[25, 25] }, type := 25, pos := "ref.go:97", after := #[{ on := 1, ground := Ground.data }, { on := 13, ground := Ground.data }, { on := 12, ground := Ground.chain }], guard := none }) rfl (by kernel_rfl) (fun K hK => ?_)
      refine step_append_row rfl (.tmp 21) (.tmp 33) rfl (b5 + 1) _ j ((List.range j).map f) hlen (by simp [Act.eval, Act.put]) (HOW.out _ (nb hB1 _)) (by omega) (Nat.le_trans hbs (nb hB1 _).size) v1.heap.size (f j) (by simp [Act.eval, Act.put]) (allocN v1 _ _) ?_
      intro g cap w9 hown9 hb9
      have hHeld := HS9.out _ _ (nb hB1 (Obj.cells #[.string (f j)] 22)) hb9
      refine hK.out _ _ (fun _ => hHeld) ?_
      clear hK K
      (try simp only [Act.put, List.setIfInBounds_toArray, List.set_cons_zero, List.set_cons_succ])
      have q0 := ((HO.out.mono (nb hB1 _)).bx.low hb9 (Nat.lt_succ_self _)).c0
      have q1 := ((HO.out.mono (nb hB1 _)).bx.low hb9 (Nat.lt_succ_self _)).f0
      have q2 := ((HO.out.mono (nb hB1 _)).bx.low hb9 (Nat.lt_succ_self _)).lt
      refine hot_takeW (i := 15) (oi := { dst := some 35, op := Op.fieldAddr 27 (Operand.tmp 5) 0, type := 0, pos := "ref.go:97", after := #[{ on := 0, ground := Ground.phase }, { on := 1, ground := Ground.phase }, { on := 2, ground := Ground.phase }, { on := 3, ground := Ground.phase }, { on := 4, ground := Ground.phase }, { on := 5, ground := Ground.phase }, { on := 6, ground := Ground.phase }, { on := 7, ground := Ground.phase }, { on := 8, ground := Ground.phase }, { on := 9, ground := Ground.phase }, { on := 10, ground := Ground.phase }, { on := 11, ground := Ground.phase }, { on := 12, ground := Ground.phase }, { on := 13, ground := Ground.phase }, { on := 14, ground := Ground.phase }], guard := none }) (v := ?v15) rfl (by kernel_rfl) (by kernel_rfl) (by kernel_rfl) rfl (fun _ _ _ h => h) (Or.inl ⟨by rfl, ?h15⟩) (by assumption) ?r15
      case h15 => (intro w _; go_simp; try with_reducible rfl)
      (try simp only [Act.put, List.setIfInBounds_toArray, List.set_cons_zero, List.set_cons_succ])
      refine hot_one (i := 16) (oi := { dst := none, op := Op.store 25 (Operand.tmp 35) (Operand.tmp 34), type := 0, pos := "ref.go:97", after := #[{ on := 15, ground := Ground.data }, { on := 14, ground := Ground.data }, { on := 14, ground := Ground.chain }, { on := 0, ground := Ground.phase }, { on := 1, ground := Ground.phase }, { on := 2, ground := Ground.phase }, { on := 3, ground := Ground.phase }, { on := 4, ground := Ground.phase }, { on := 5, ground := Ground.phase }, { on := 6, ground := Ground.phase }, { on := 7, ground := Ground.phase }, { on := 8, ground := Ground.phase }, { on := 9, ground := Ground.phase }, { on := 10, ground := Ground.phase }, { on := 11, ground := Ground.phase }, { on := 12, ground := Ground.phase }, { on := 13, ground := Ground.phase }, { on := 14, ground := Ground.phase }], guard := none }) rfl (by kernel_rfl) (fun K hK => ?_)
      go_simp
      refine hK.out _ _ (fun h => by cases h) ?_
      clear hK K q0 q1 q2
      refine hot_done (by kernel_rfl) ?_ _
      have hown9' : w9.ownsRow (b5 + 1) 22 1 (.slice (some ⟨g, 0, none⟩) (((List.range j).map f).length + 1) cap) (((List.range j).map f).length + 1) (strCells (((List.range j).map f) ++ [f j])) := by rw [hlen]; exact hown9
      have N := (HO.out.mono (nb hB1 _)).next hown9' hb9
      rw [hlen, range_snoc] at N
      have X9 := ((HX.out.mono (nb hB1 _)).low hb9 (by omega)).set (g := b5) (by omega) 0 (.slice (some ⟨g, 0, none⟩) (j + 1) cap)
      have Y9 := ((HY.out.mono (nb hB1 _)).low hb9 (by omega)).set (g := b5) (by omega) 0 (.slice (some ⟨g, 0, none⟩) (j + 1) cap)
      have Z9 := ((HZ.out.mono (nb hB1 _)).low hb9 (by omega)).set (g := b5) (by omega) 0 (.slice (some ⟨g, 0, none⟩) (j + 1) cap)
      have B9 := (((Below.chain HB.out (nb hB1 _)).trans (hb9.mono (by omega))).setCell (p := ⟨b5, 0, none⟩) (by dsimp only; omega) (.slice (some ⟨g, 0, none⟩) (j + 1) cap))
      have HN := Lib.hid N; have HX9 := Lib.hid X9; have HY9 := Lib.hid Y9; have HZ9 := Lib.hid Z9; have HB9 := Lib.hid B9
      clear N X9 Y9 Z9 B9 hown9 hown9' hb9
      go_wp2
      go_roundw
      case rel => exact ⟨j + 1, _, cap, by omega, by go_num, HX9.out, HY9.out, HZ9.out, HN.out, HB9.out⟩
      case measure => simp [intOf]; omega
    · have hjn : j = l.length := by omega
      subst hjn
      have hlen := range_len f l.length
      have x0 := ho.bx.c0; have x1 := ho.bx.c1; have x2 := ho.bx.f0; have x3 := ho.bx.f1; have x4 := ho.bx.lt
      have y0 := hx.c0; have y4 := hx.lt
      have z0' := hz.c0; have z1 := hz.c1; have z2 := hz.f0; have z3 := hz.f1; have z4 := hz.lt
      have q := box2 hz.c0 hz.c1 (.slice a2 l.length c2) (.string y)
      have HBB := Lib.hid (below2 (p := w.heap.size + 1 + 1) hB (by omega) (.slice a2 l.length c2) (.string y))
      have ho2 := ownsRow_setCell_below (ownsRow_setCell_below ho.own (a := ⟨w.heap.size + 1 + 1, 0, none⟩) (by dsimp only; omega) (.slice a2 l.length c2)) (a := ⟨w.heap.size + 1 + 1, 1, none⟩) (by dsimp only; omega) (.string y)
      rw [hlen] at ho2 x0
      have HO := Lib.hid ho2
      obtain ⟨q1, q2⟩ := q
      clear ho2 ho hx hy hz hB
      go_wp2
      refine bodyPost_ret (v := .agg #[.slice a2 l.length c2, .string y]) (by simp [results, Tryz.results57, go_sem, q1, q2]) rfl ?_
      exact ⟨a2, c2, by rw [hlen], by rw [hlen]; exact owns_base HO.out (by omega), HBB.out⟩
end Go.Proofs.YtjobmkdaaionlaaGreatDoor

/-
  linear: the reference's done, two, Add, Scale.
-/
set_option linter.unusedSimpArgs false
namespace Go.Proofs.YtjobmkdaaionlaaGreatDoor
open Go Go.Proofs Go.RowKit

def doneO (l : List ByteArray) (k : ByteArray) : LOut := if linE l k = 0 then ⟨l, k, 0⟩ else .bad 10

set_option maxHeartbeats 2000000 in
theorem refDone (l : List ByteArray) (k : ByteArray) (ao : Option Addr) (c Bd : Nat) (w : World) (hr : RowB Bd w ao c l) (hz : ∀ s ∈ l, s.size ≤ 1200000) (hk : k.size ≤ 1200000) (hn : l.length ≤ 1200000) :
    Calls Tryz.prog 56 #[.agg #[.slice ao l.length c, .string k]] w (LinRet Bd (doneO l k) w) := by
  have CC := fun (W : World) (hW : Below w.heap.size w W) => refLinCheck l k ao c W (hr.1.mono hW) hz hk hn
  have hcs := linE_cases l k
  obtain ⟨X, Z, B⟩ := entryAB w (.slice ao l.length c) (.string k) (.slice none 0 0) (.string ⟨#[]⟩) 27
  have HR := Lib.hid hr
  unfold doneO
  clear hz hk hn hr
  by_cases h0 : linE l k = 0
  · rw [if_pos h0]
    rw [h0] at CC
    have KC := Lib.hid CC; clear CC hcs h0
    have x0 := X.c0; have x1 := X.c1; have x4 := X.lt
    go_enter Tryz.func56, Tryz.ntmps56
    go_wp2_with (go_at_call 27; refine (KC.out _ B).mono ?_; rintro e w1 ⟨rfl, hb1⟩; refine Hid.out ?_)
    have X1 := X.mono hb1; have Z1 := Z.mono hb1; have B1 := Below.chain B hb1
    clear hb1 X Z B x0 x1 x4
    have x0 := X1.c0; have x1 := X1.c1; have x4 := X1.lt
    have z0' := Z1.c0; have z1 := Z1.c1; have z2 := Z1.f0; have z3 := Z1.f1; have z4 := Z1.lt
    have q := box2 Z1.c0 Z1.c1 (.slice ao l.length c) (.string k)
    have HBB := Lib.hid (below2 (p := w.heap.size + 1) B1 (by omega) (.slice ao l.length c) (.string k))
    clear X1 Z1 B1
    refine Lib.hid ?_
    go_wp2
    obtain ⟨q1, q2⟩ := q
    refine bodyPost_ret (v := .tuple #[.agg #[.slice ao l.length c, .string k], .int .i64 0]) (by simp [results, Tryz.results56, go_sem, q1, q2]) rfl ?_
    exact ⟨ao, c, rfl, HR.out.mono HBB.out, HBB.out⟩
  · rw [if_neg h0]
    rcases hcs with h | h | h | h
    · exact absurd h h0
    all_goals
      rw [h] at CC
      clear h h0
      have KC := Lib.hid CC; clear CC
      have x0 := X.c0; have x1 := X.c1; have x4 := X.lt
      go_enter Tryz.func56, Tryz.ntmps56
      go_wp2_with (go_at_call 27; refine (KC.out _ B).mono ?_; rintro e w1 ⟨rfl, hb1⟩; refine Hid.out ?_)
      have Z1 := Z.mono hb1; have B1 := Below.chain B hb1
      clear hb1 X Z B x0 x1 x4
      have z0' := Z1.c0; have z1 := Z1.c1; have z2 := Z1.f0; have z3 := Z1.f1; have z4 := Z1.lt
      have q := box2 Z1.c0 Z1.c1 (.slice none 0 0) (.string ⟨#[]⟩)
      have HBB := Lib.hid (below2 (p := w.heap.size + 1) B1 (by omega) (.slice none 0 0) (.string ⟨#[]⟩))
      clear Z1 B1
      refine Lib.hid ?_
      go_wp2
      obtain ⟨q1, q2⟩ := q
      refine bodyPost_ret (by simp [results, Tryz.results56, go_sem, q1, q2]; rfl) rfl ?_
      exact ⟨none, 0, rfl, RowB.nil _ _, HBB.out⟩

/-- The error of two expressions. -/
def twoE (l : List ByteArray) (k : ByteArray) (m : List ByteArray) (k2 : ByteArray) : Nat :=
  if linE l k = 0 then (if linE m k2 = 0 then (if l.length = m.length then 0 else 22) else linE m k2) else linE l k
set_option maxHeartbeats 2000000 in
theorem refTwo (l : List ByteArray) (k : ByteArray) (ao : Option Addr) (c : Nat) (m : List ByteArray) (k2 : ByteArray) (bo : Option Addr) (d : Nat) (w : World) (hr : SRow w ao c l) (hz : ∀ s ∈ l, s.size ≤ 1200000) (hk : k.size ≤ 1200000) (hn : l.length ≤ 1200000)
    (hr2 : SRow w bo d m) (hz2 : ∀ s ∈ m, s.size ≤ 1200000) (hk2 : k2.size ≤ 1200000) (hn2 : m.length ≤ 1200000) :
    Calls Tryz.prog 55 #[.agg #[.slice ao l.length c, .string k], .agg #[.slice bo m.length d, .string k2]] w (Bret (.int .i64 (twoE l k m k2 : Nat)) w) := by
  have C1 := fun (W : World) (hW : Below w.heap.size w W) => refLinCheck l k ao c W (hr.mono hW) hz hk hn
  have C2 := fun (W : World) (hW : Below w.heap.size w W) => refLinCheck m k2 bo d W (hr2.mono hW) hz2 hk2 hn2
  have hc1 := linE_cases l k
  have hc2 := linE_cases m k2
  obtain ⟨X, Y, B⟩ := entryAB w (.slice ao l.length c) (.string k) (.slice bo m.length d) (.string k2) 27
  have x0 := X.c0; have x1 := X.c1; have x4 := X.lt; have y0 := Y.c0; have y1 := Y.c1; have y4 := Y.lt
  unfold twoE
  clear hz hk hr hz2 hk2 hr2
  by_cases h0 : linE l k = 0
  · rw [if_pos h0]
    rw [h0] at C1
    by_cases h1 : linE m k2 = 0
    · rw [if_pos h1]
      rw [h1] at C2
      have KC := Lib.hid C1; have KD := Lib.hid C2; clear C1 C2 hc1 hc2 h0 h1
      generalize l.length = n1 at *
      generalize m.length = n2 at *
      by_cases hl : n1 = n2
      · rw [if_pos hl]
        subst hl
        go_enter Tryz.func55, Tryz.ntmps55
        go_wp2_with (go_at_call 27; refine (KC.out _ B).mono ?_; rintro e w1 ⟨rfl, hb1⟩; refine Hid.out ?_)
        have X1 := X.mono hb1; have Y1 := Y.mono hb1; have B1 := Below.chain B hb1
        clear hb1 X Y B x0 x1 x4 y0 y1 y4
        have x0 := X1.c0; have x1 := X1.c1; have x4 := X1.lt; have y0 := Y1.c0; have y1 := Y1.c1; have y4 := Y1.lt
        refine Lib.hid ?_
        go_wp2_with (go_at_call 27; refine (KD.out _ B1).mono ?_; rintro e w2 ⟨rfl, hb2⟩; refine Hid.out ?_)
        have X2 := X1.mono hb2; have Y2 := Y1.mono hb2; have B2 := Below.chain B1 hb2
        clear hb2 X1 Y1 B1 x0 x1 x4 y0 y1 y4
        have x0 := X2.c0; have x1 := X2.c1; have x4 := X2.lt; have y0 := Y2.c0; have y1 := Y2.c1; have y4 := Y2.lt
        have HB := Lib.hid B2; clear B2 X2 Y2
        refine Lib.hid ?_
        go_wp2
        refine bodyPost_ret (v := .int .i64 0) (by simp [results, Tryz.results55, go_sem]) rfl ?_
        exact ⟨rfl, HB.out⟩
      · rw [if_neg hl]
        have hd : ¬ ((n1 : Int) = (n2 : Int)) := by omega
        have hd2 : ((n1 : Int) == (n2 : Int)) = false := by simp; omega
        go_enter Tryz.func55, Tryz.ntmps55
        go_wp2_with (go_at_call 27; refine (KC.out _ B).mono ?_; rintro e w1 ⟨rfl, hb1⟩; refine Hid.out ?_)
        have X1 := X.mono hb1; have Y1 := Y.mono hb1; have B1 := Below.chain B hb1
        clear hb1 X Y B x0 x1 x4 y0 y1 y4
        have x0 := X1.c0; have x1 := X1.c1; have x4 := X1.lt; have y0 := Y1.c0; have y1 := Y1.c1; have y4 := Y1.lt
        refine Lib.hid ?_
        go_wp2_with (go_at_call 27; refine (KD.out _ B1).mono ?_; rintro e w2 ⟨rfl, hb2⟩; refine Hid.out ?_)
        have X2 := X1.mono hb2; have Y2 := Y1.mono hb2; have B2 := Below.chain B1 hb2
        clear hb2 X1 Y1 B1 x0 x1 x4 y0 y1 y4
        have x0 := X2.c0; have x1 := X2.c1; have x4 := X2.lt; have y0 := Y2.c0; have y1 := Y2.c1; have y4 := Y2.lt
        have HB := Lib.hid B2; clear B2 X2 Y2
        refine Lib.hid ?_
        go_wp2
        refine bodyPost_ret (v := .int .i64 22) (by simp [results, Tryz.results55, go_sem]) rfl ?_
        exact ⟨rfl, HB.out⟩
    · rw [if_neg h1]
      have KC := Lib.hid C1; clear C1 hc1 h0
      rcases hc2 with h | h | h | h
      · exact absurd h h1
      all_goals
        rw [h] at C2 ⊢
        clear h h1
        have KD := Lib.hid C2; clear C2
        go_enter Tryz.func55, Tryz.ntmps55
        go_wp2_with (go_at_call 27; refine (KC.out _ B).mono ?_; rintro e w1 ⟨rfl, hb1⟩; refine Hid.out ?_)
        have Y1 := Y.mono hb1; have B1 := Below.chain B hb1
        clear hb1 X Y B x0 x1 x4 y0 y1 y4
        have y0 := Y1.c0; have y1 := Y1.c1; have y4 := Y1.lt
        refine Lib.hid ?_
        go_wp2_with (go_at_call 27; refine (KD.out _ B1).mono ?_; rintro e w2 ⟨rfl, hb2⟩; refine Hid.out ?_)
        have HB := Lib.hid (Below.chain B1 hb2); clear hb2 Y1 B1
        refine Lib.hid ?_
        go_wp2
        refine bodyPost_ret (by simp [results, Tryz.results55, go_sem]; rfl) rfl ?_
        exact ⟨rfl, HB.out⟩
  · rw [if_neg h0]
    clear C2 hc2
    rcases hc1 with h | h | h | h
    · exact absurd h h0
    all_goals
      rw [h] at C1 ⊢
      clear h h0
      have KC := Lib.hid C1; clear C1
      go_enter Tryz.func55, Tryz.ntmps55
      go_wp2_with (go_at_call 27; refine (KC.out _ B).mono ?_; rintro e w1 ⟨rfl, hb1⟩; refine Hid.out ?_)
      have HB := Lib.hid (Below.chain B hb1); clear hb1 X Y B
      refine Lib.hid ?_
      go_wp2
      refine bodyPost_ret (by simp [results, Tryz.results55, go_sem]; rfl) rfl ?_
      exact ⟨rfl, HB.out⟩
end Go.Proofs.YtjobmkdaaionlaaGreatDoor

/-
  linear: the reference's Add, Scale.
-/
set_option linter.unusedSimpArgs false
namespace Go.Proofs.YtjobmkdaaionlaaGreatDoor
open Go Go.Proofs Go.RowKit

theorem doneO_expr {l : List ByteArray} {k : ByteArray} {m : Nat} (hm : m ≤ 4096) (hg : ∀ s ∈ l ++ [k], Good m s) (hl : l.length ≤ 32) : doneO l k = exprO l k := by
  unfold doneO exprO
  have e : linE l k = 0 ↔ (l ++ [k]).all shortS = true := by
    unfold linE
    rw [if_neg (by omega), firstE_iff, List.all_eq_true]
    constructor
    · intro h s hs
      exact shortS_num (h s hs)
    · intro h s hs
      rw [numE_good (hg s hs) hm]; exact if_pos (h s hs)
  by_cases h : linE l k = 0
  · rw [if_pos h, if_pos (e.1 h)]
  · rw [if_neg h, if_neg (fun k => h (e.2 k))]
theorem good_sizes {l : List ByteArray} {k : ByteArray} {m : Nat} (h0 : 0 < m) (hm : m ≤ 20000) (hg : ∀ s ∈ l ++ [k], Good m s) : (∀ s ∈ l, s.size ≤ 1200000) ∧ k.size ≤ 1200000 :=
  ⟨fun s hs => (hg s (List.mem_append_left _ hs)).sz2 h0 hm, (hg k (by simp)).sz2 h0 hm⟩
theorem zip_good2 {l m : List ByteArray} {k k2 : ByteArray} {i j : Nat} (hg : ∀ s ∈ l ++ [k], Good i s) (hg2 : ∀ s ∈ m ++ [k2], Good j s) : ∀ s ∈ (List.zipWith addT l m) ++ [addT k k2], Good (i + j + 1) s := by
  intro s hs
  rcases List.mem_append.1 hs with h | h
  · obtain ⟨n, hn, e⟩ := List.mem_iff_getElem.1 h
    rw [List.getElem_zipWith] at e
    rw [← e]
    exact (hg _ (List.mem_append_left _ (List.getElem_mem _))).add (hg2 _ (List.mem_append_left _ (List.getElem_mem _)))
  · rw [List.mem_singleton.1 h]; exact (hg k (by simp)).add (hg2 k2 (by simp))

theorem twoE_cases (l : List ByteArray) (k : ByteArray) (m : List ByteArray) (k2 : ByteArray) : twoE l k m k2 = 0 ∨ twoE l k m k2 = 3 ∨ twoE l k m k2 = 5 ∨ twoE l k m k2 = 10 ∨ twoE l k m k2 = 22 := by
  have h1 := linE_cases l k
  have h2 := linE_cases m k2
  unfold twoE
  split <;> (try split) <;> (try split) <;> omega
theorem twoE_zero {l : List ByteArray} {k : ByteArray} {m : List ByteArray} {k2 : ByteArray} (h : twoE l k m k2 = 0) : linE l k = 0 ∧ linE m k2 = 0 ∧ l.length = m.length := by
  unfold twoE at h
  split at h
  · split at h
    · split at h
      · exact ⟨by assumption, by assumption, by assumption⟩
      · omega
    · omega
  · omega
theorem addO_two (l : List ByteArray) (k : ByteArray) (m : List ByteArray) (k2 : ByteArray) : addO l k m k2 = if twoE l k m k2 = 0 then exprO (List.zipWith addT l m) (addT k k2) else .bad (twoE l k m k2) := by
  unfold addO twoE bothE
  by_cases h1 : linE l k = 0
  · by_cases h2 : linE m k2 = 0
    · by_cases h3 : l.length = m.length
      · simp [h1, h2, h3]
      · simp [h1, h2, h3]
    · simp [h1, h2]
  · simp [h1]

end Go.Proofs.YtjobmkdaaionlaaGreatDoor

/-
  linear: the reference's Add.
-/
set_option linter.unusedSimpArgs false
namespace Go.Proofs.YtjobmkdaaionlaaGreatDoor
open Go Go.Proofs Go.RowKit

set_option maxRecDepth 20000 in
set_option maxHeartbeats 4000000 in
theorem refAddL (l : List ByteArray) (k : ByteArray) (ao : Option Addr) (c : Nat) (m : List ByteArray) (k2 : ByteArray) (bo : Option Addr) (d : Nat) (w : World)
    (hr : SRow w ao c l) (hz : ∀ s ∈ l ++ [k], s.size ≤ 1200000) (hn : l.length ≤ 1200000) (hr2 : SRow w bo d m) (hz2 : ∀ s ∈ m ++ [k2], s.size ≤ 1200000) (hn2 : m.length ≤ 1200000) :
    Calls Tryz.prog 21 #[.agg #[.slice ao l.length c, .string k], .agg #[.slice bo m.length d, .string k2]] w (LinRet w.heap.size (addO l k m k2) w) := by
  have CH := fun (W : World) (hW : Below w.heap.size w W) => refTwo l k ao c m k2 bo d W (hr.mono hW) (fun s hs => hz s (List.mem_append_left _ hs)) (hz k (by simp)) hn (hr2.mono hW) (fun s hs => hz2 s (List.mem_append_left _ hs)) (hz2 k2 (by simp)) hn2
  have hcs := twoE_cases l k m k2
  obtain ⟨X, Y, Z, B⟩ := entry3 w (.slice ao l.length c) (.string k) (.slice bo m.length d) (.string k2) (.slice none 0 0) (.string ⟨#[]⟩) 27
  have x0 := X.c0; have x1 := X.c1; have x4 := X.lt; have y0 := Y.c0; have y1 := Y.c1; have y4 := Y.lt
  rw [addO_two]
  by_cases h0 : twoE l k m k2 = 0
  · rw [if_pos h0]
    obtain ⟨e1, e2, e3⟩ := twoE_zero h0
    obtain ⟨g1, g2⟩ := linE_zero e1
    obtain ⟨g3, g4⟩ := linE_zero e2
    rw [h0] at CH
    have gm := zip_good2 g2 g4
    have hlm : (List.zipWith addT l m).length = l.length := by simp; omega
    have hsz := good_sizes (m := 100 + 100 + 1) (by decide) (by decide) gm
    rw [← doneO_expr (m := 100 + 100 + 1) (by decide) gm (by rw [hlm]; exact g1)]
    have CT := fun (W : World) (hW : Below w.heap.size w W) => refPlusL l k ao c 100 m k2 bo d 100 W (hr.mono hW) (hr2.mono hW) e3.symm (by omega) g2 g4 (by decide) (by decide) (by decide) (by decide)
    have CD := fun (W : World) (a2 : Option Addr) (c2 Bd : Nat) (r : RowB Bd W a2 c2 (List.zipWith addT l m)) => refDone (List.zipWith addT l m) (addT k k2) a2 c2 Bd W r hsz.1 hsz.2 (by rw [hlm]; omega)
    clear hr hz hn hr2 hz2 hn2 hcs h0 g1 g2 g3 g4 gm hsz e1 e2 e3
    generalize doneO (List.zipWith addT l m) (addT k k2) = O at *
    unfold OutRet at CT
    generalize (List.zipWith addT l m) = l2 at *
    generalize addT k k2 = kk at *
    rw [hlm] at CT CD
    generalize l.length = n at *
    generalize m.length = n2 at *
    have KH := Lib.hid CH; have KT := Lib.hid CT; have KD := Lib.hid CD; have HLM := Lib.hid hlm; clear CH CT CD hlm
    go_enter Tryz.func21, Tryz.ntmps21
    go_wp2_with (go_at_call 55; refine (KH.out _ B).mono ?_; rintro e w1 ⟨rfl, hb1⟩; refine Hid.out ?_)
    have X2 := X.mono hb1; have Y2 := Y.mono hb1; have Z2 := Z.mono hb1; have hB2 := Below.chain B hb1
    clear hb1 X Y Z B x0 x1 x4 y0 y1 y4
    have x0 := X2.c0; have x1 := X2.c1; have x4 := X2.lt; have y0 := Y2.c0; have y1 := Y2.c1; have y4 := Y2.lt
    refine Lib.hid ?_
    go_wp2_with (go_at_call 57; refine (KT.out _ hB2).mono ?_; rintro e w3 ⟨a3, c3, rfl, ho3, hb3⟩; refine Hid.out ?_)
    have Z3 := Z2.mono hb3; have hB3 := Below.chain hB2 hb3
    have hBd : w.heap.size + 3 ≤ w1.heap.size := by have := Z2.lt; omega
    have r3 : RowB (w1.heap.size + 3) w3 a3 c3 l2 := OutRet.row (by rw [HLM.out]; exact ho3)
    have HR3 := Lib.hid r3
    clear hb3 X2 Y2 Z2 hB2 x0 x1 x4 y0 y1 y4 ho3 r3
    refine Lib.hid ?_
    go_wp2_with (go_at_call 56; refine (KD.out _ a3 c3 _ HR3.out).mono ?_; rintro e w5 ⟨ae, ce, rfl, re, hb5⟩; refine Hid.out ?_)
    have Z5 := Z3.mono hb5; have hB5 := Below.chain hB3 hb5
    have z0 := Z5.c0; have z1 := Z5.c1; have z2 := Z5.f0; have z3 := Z5.f1; have z4 := Z5.lt
    have HR := Lib.hid ((re.set (p := w.heap.size + 1 + 1) (by omega) 0 (.slice ae O.l.length ce)).set (p := w.heap.size + 1 + 1) (by omega) 1 (.string O.k))
    have HBB := Lib.hid (below2 (p := w.heap.size + 1 + 1) hB5 (by omega) (.slice ae O.l.length ce) (.string O.k))
    have q := box2 Z5.c0 Z5.c1 (.slice ae O.l.length ce) (.string O.k)
    clear hb5 Z3 hB3 Z5 hB5 re
    refine Lib.hid ?_
    go_wp2
    obtain ⟨q1, q2⟩ := q
    refine bodyPost_ret (v := .tuple #[.agg #[.slice ae O.l.length ce, .string O.k], .int .i64 (O.e : Nat)]) (by simp [results, Tryz.results21, go_sem, q1, q2]) rfl ?_
    exact ⟨ae, ce, rfl, HR.out.lower (by omega), HBB.out⟩
  · rw [if_neg h0]
    clear hr hz hn hr2 hz2 hn2
    generalize l.length = n at *
    generalize m.length = n2 at *
    rcases hcs with h | h | h | h | h
    · exact absurd h h0
    all_goals
      rw [h] at CH ⊢
      clear h h0
      have KH := Lib.hid CH; clear CH
      go_enter Tryz.func21, Tryz.ntmps21
      go_wp2_with (go_at_call 55; refine (KH.out _ B).mono ?_; rintro e w1 ⟨rfl, hb1⟩; refine Hid.out ?_)
      have Z1 := Z.mono hb1; have hB1 := Below.chain B hb1
      have z0 := Z1.c0; have z1 := Z1.c1; have z2 := Z1.f0; have z3 := Z1.f1; have z4 := Z1.lt
      have q := box2 Z1.c0 Z1.c1 (.slice none 0 0) (.string ⟨#[]⟩)
      have HBB := Lib.hid (below2 (p := w.heap.size + 1 + 1) hB1 (by omega) (.slice none 0 0) (.string ⟨#[]⟩))
      clear hb1 X Y Z B Z1 hB1 x0 x1 x4 y0 y1 y4
      refine Lib.hid ?_
      go_wp2
      obtain ⟨q1, q2⟩ := q
      refine bodyPost_ret (by simp [results, Tryz.results21, go_sem, q1, q2]; rfl) rfl ?_
      exact ⟨none, 0, rfl, RowB.nil _ _, HBB.out⟩
end Go.Proofs.YtjobmkdaaionlaaGreatDoor

