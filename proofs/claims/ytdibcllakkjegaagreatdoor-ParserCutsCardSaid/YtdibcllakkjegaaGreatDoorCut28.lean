import Derived.Test.YtdibcllakkjegaaGreatDoorCut27
import Derived.Test.YtdibcllakkjegaaGreatDoorCut4
import Derived.Lib.AtoiAllCases
import Derived.Test.YtdibcllakkjegaaGreatDoorCut6
import Derived.Test.YtdibcllakkjegaaGreatDoorCut19

set_option linter.unusedVariables false
/-
  parser: parse.
-/
set_option linter.unusedSimpArgs false
set_option linter.unusedVariables false
namespace Go.Proofs.YtdibcllakkjegaaGreatDoor
open Go Go.Proofs Go.RowKit Go.Sort
theorem below_set5 {lo q : Nat} {a W : World} (h : Below lo a W) (hp : lo ≤ q) (v0 v1 v2 v3 v4 : Value) : Below lo a (((((W.setCell ⟨q, 0, none⟩ v0).setCell ⟨q, 1, none⟩ v1).setCell ⟨q, 2, none⟩ v2).setCell ⟨q, 3, none⟩ v3).setCell ⟨q, 4, none⟩ v4) :=
  ((((h.setCell (p := ⟨q, 0, none⟩) hp v0).setCell (p := ⟨q, 1, none⟩) hp v1).setCell (p := ⟨q, 2, none⟩) hp v2).setCell (p := ⟨q, 3, none⟩) hp v3).setCell (p := ⟨q, 4, none⟩) hp v4
set_option maxRecDepth 20000 in
set_option maxHeartbeats 1000000 in
theorem pparse_bad (s : ByteArray) (f : Value) (w : World) (he : (scR s).2.2 ≠ 0) (ht : Lib.TabBelow Tryz.prog w.heap.size w "surveyor/lexer.classes" .u8 clsTab) :
    Calls Tryz.prog 29 #[.string s, f] w fun e w' => e = .returned (.tuple #[(.agg #[.int .i64 0, .int .i64 0, .string ⟨#[]⟩, .int .i64 0, .slice none 0 0]), .int .i64 ((scR s).2.1 : Nat), .int .i64 ((scR s).2.2 : Nat)]) ∧ Below w.heap.size w w' := by
  have hA : Below w.heap.size w (w.alloc (Obj.cells #[.int .i64 0, .int .i64 0, .string ⟨#[]⟩, .int .i64 0, .slice none 0 0] 25)) := (Below.refl _ _).alloc (Nat.le_refl _) _
  have CS := scan_any s (w.alloc (Obj.cells #[.int .i64 0, .int .i64 0, .string ⟨#[]⟩, .int .i64 0, .slice none 0 0] 25)) (fun W hW => ht W (Below.chain hA hW))
  have hX := Bx5.new w (.int .i64 0) (.int .i64 0) (.string ⟨#[]⟩) (.int .i64 0) (.slice none 0 0)
  generalize (scR s).2.1 = at_ at *
  generalize (scR s).2.2 = er at *
  have te : (((er : Nat) : Int) != (0 : Int)) = true := by rw [bne_iff_ne]; omega
  have te2 : (((er : Nat) : Int) == (0 : Int)) = false := by rw [beq_eq_false_iff_ne]; omega
  have KS := Lib.hid CS; have HA := Lib.hid hA; have HX := Lib.hid hX
  clear CS hA hX ht he
  go_enter Tryz.func29, Tryz.ntmps29
  go_wp2_with (go_at_call 20; refine (KS.out).mono ?_; rintro e w2 ⟨v, rfl, ho, hb2⟩; refine Hid.out ?_)
  have X2 := HX.out.below hb2
  obtain ⟨y0, y1, y2, y3, y4, yf, yl⟩ := X2
  have f0 := yf 0; have f1 := yf 1; have f2 := yf 2; have f3 := yf 3; have f4 := yf 4
  obtain ⟨r0, r1, r2, r3, r4⟩ := box5 y0 y1 y2 y3 y4 (.int .i64 0) (.int .i64 0) (.string ⟨#[]⟩) (.int .i64 0) (.slice none 0 0) _ rfl
  have HB := Lib.hid (below_set5 (Below.chain HA.out hb2) (Nat.le_refl _) (.int .i64 0) (.int .i64 0) (.string ⟨#[]⟩) (.int .i64 0) (.slice none 0 0))
  clear ho hb2 yf yl
  refine Lib.hid ?_
  go_wp2
  refine bodyPost_ret (by simp [results, Tryz.results29, go_sem, r0, r1, r2, r3, r4]; rfl) rfl ?_
  exact ⟨rfl, HB.out⟩
set_option maxRecDepth 20000 in
set_option maxHeartbeats 4000000 in
theorem pparse_program (s : ByteArray) (w : World) (L : List Tk) (hL : L = (scR s).1) (he : (scR s).2.2 = 0) (ht : Lib.TabBelow Tryz.prog w.heap.size w "surveyor/lexer.classes" .u8 clsTab) (hev : EvAt w) (hT : TkL L) (Q : Syn → RSt → Prop)
    (KC : ∀ (R : Nat) (W : World), At R L W 0 (.ok L) → Calls Tryz.prog 30 #[.pointer (some ⟨R, 0, none⟩)] W fun e W' => ∃ x v st', e = .returned v ∧ synAt W.heap.size W' x v ∧ Q x st' ∧ At R L W' 0 st' ∧ Butt R W W') :
    Calls Tryz.prog 29 #[.string s, .func (.func 30) #[] #[]] w fun e w' => ∃ x st', Q x st' ∧ Below w.heap.size w w' ∧
      ((∃ l v, needS (tIs L st' ⟨#[]⟩) st' = .ok l ∧ e = .returned (.tuple #[v, .int .i64 0, .int .i64 0]) ∧ synAt w.heap.size w' x v) ∨
       (∃ a c, needS (tIs L st' ⟨#[]⟩) st' = .bad a c ∧ c ≠ 0 ∧ e = .returned (.tuple #[(.agg #[.int .i64 0, .int .i64 0, .string ⟨#[]⟩, .int .i64 0, .slice none 0 0]), .int .i64 a, .int .i64 (c : Nat)]))) := by
  have hA : Below w.heap.size w (w.alloc (Obj.cells #[.int .i64 0, .int .i64 0, .string ⟨#[]⟩, .int .i64 0, .slice none 0 0] 25)) := (Below.refl _ _).alloc (Nat.le_refl _) _
  have hT2 : Lib.TabBelow Tryz.prog (w.alloc (Obj.cells #[.int .i64 0, .int .i64 0, .string ⟨#[]⟩, .int .i64 0, .slice none 0 0] 25)).heap.size (w.alloc (Obj.cells #[.int .i64 0, .int .i64 0, .string ⟨#[]⟩, .int .i64 0, .slice none 0 0] 25)) "surveyor/lexer.classes" .u8 clsTab := fun W hW => ht W (Below.chain hA hW)
  have CS := scan_any s (w.alloc (Obj.cells #[.int .i64 0, .int .i64 0, .string ⟨#[]⟩, .int .i64 0, .slice none 0 0] 25)) hT2
  rw [he, ← hL] at CS
  have hX := Bx5.new w (.int .i64 0) (.int .i64 0) (.string ⟨#[]⟩) (.int .i64 0) (.slice none 0 0)
  have KS := Lib.hid CS; have HA := Lib.hid hA; have HX := Lib.hid hX; have HT := Lib.hid ht; have HEV := Lib.hid hev; have HTL := Lib.hid hT; have KQ := Lib.hid KC
  generalize (scR s).2.1 = at_ at *
  clear CS hA hX ht hev hT he KC hT2 hL
  go_enter Tryz.func29, Tryz.ntmps29
  go_wp2_with (go_at_call 20; refine (KS.out).mono ?_; rintro e w2 ⟨v, rfl, ho, hb2⟩; refine Hid.out ?_)
  obtain ⟨ao, c, rfl, hrow⟩ := TRow.of_owns ho
  have hB2 := Below.chain HA.out hb2
  have X2 := Lib.hid (HX.out.below hb2); have B2 := Lib.hid hB2; have HRW := Lib.hid hrow
  have CN := pnewReader L ao L.length c w2 rfl hrow HTL.out (fun W hW => HT.out W (Below.chain hB2 hW)) (fun k hk => by
    obtain ⟨e1, ev, e2, e3⟩ := HEV.out k hk
    exact ⟨Nat.lt_of_lt_of_le e1 hB2.size, ev, (hB2.cell (p := ⟨k, 0, none⟩) e1).trans e2, e3⟩)
  have KN := Lib.hid CN
  clear ho hb2 hrow hB2 CN
  refine Lib.hid ?_
  go_wp2_with (go_at_call 54; refine (KN.out).mono ?_; rintro e w3 ⟨rfl, ha3, hb3⟩; refine Hid.out ?_)
  have hq : w.heap.size < w2.heap.size := X2.out.lt
  have A3 := Lib.hid ha3; have B3 := Lib.hid (Below.chain B2.out hb3); have X3 := Lib.hid (X2.out.below hb3); have HQ := Lib.hid hq; have HR3 := Lib.hid ha3.fix.lt
  clear ha3 hb3 hq
  refine Lib.hid ?_
  go_wp2_with (go_at_call 30; refine (KQ.out _ _ A3.out).mono ?_; rintro e w4 ⟨x, v, s4, rfl, hx, hs, ha4, hb4⟩; refine Hid.out ?_)
  obtain ⟨k4, a4, t4, n4, o4, l4, c4, q4, rfl, rfl, hk4⟩ := hx.shape
  have hpR : w.heap.size ≠ w2.heap.size := Nat.ne_of_lt HQ.out
  have A4 := Lib.hid ha4; have X4 := Lib.hid (X3.out.butt hpR hb4); have HS := Lib.hid hs; have HX4 := Lib.hid hx
  have B4 := Lib.hid (B3.out.trans (Below.down (hb4.below HR3.out) (Nat.le_of_lt HQ.out)))
  clear ha4 hb4 hs hx hk4
  refine Lib.hid ?_
  have A5 := Lib.hid (A4.out.alloc (Obj.cells #[.int .i64 k4, .int .i64 a4, .string t4, .int .i64 n4, .slice o4 l4 c4] 25))
  have X5 := Lib.hid (X4.out.alloc (Obj.cells #[.int .i64 k4, .int .i64 a4, .string t4, .int .i64 n4, .slice o4 l4 c4] 25))
  have T5 := Lib.hid (Bx5.new w4 (.int .i64 k4) (.int .i64 a4) (.string t4) (.int .i64 n4) (.slice o4 l4 c4))
  have PT5 : Hid (w4.heap.size ≠ w2.heap.size) := Lib.hid (fun e => by have := A4.out.fix.lt; omega)
  go_wp2_with (go_at_call 55; refine (sexpect A5.out ⟨#[]⟩).mono ?_; rintro e w6 ⟨rfl, ha6, hb6⟩; refine Hid.out ?_)
  have X6 := Lib.hid (X5.out.butt hpR hb6); have T6 := Lib.hid (T5.out.butt PT5.out hb6)
  have BA : Below w4.heap.size w4 (w4.alloc (Obj.cells #[.int .i64 k4, .int .i64 a4, .string t4, .int .i64 n4, .slice o4 l4 c4] 25)) := (Below.refl _ _).alloc (Nat.le_refl _) _
  have B6 : Hid (Below w.heap.size w w6) := Lib.hid ((Below.chain B4.out BA).trans (Below.down (hb6.below A5.out.fix.lt) (Nat.le_of_lt HQ.out)))
  have HX6 := Lib.hid (synAt.keep (hb6.froms HR3.out) (Nat.le_refl _) _ _ (synAt.keep (From.of_below BA) (Nat.le_refl _) _ _ HX4.out))
  clear BA
  obtain ⟨hf6, nx, a, er, h1, h2, h3⟩ := ha6
  have c3 := h2.c3
  have c4' := h2.c4
  have H3 := Lib.hid h3
  clear hf6 h1 h2 hb6
  rcases h3 with ⟨rfl, rfl, e3⟩ | ⟨hne, rfl, e3⟩
  · have E3 := Lib.hid e3
    have hlo : w.heap.size < w3.heap.size := Nat.lt_of_lt_of_le HQ.out (Nat.le_of_lt HR3.out)
    have fr : From w3.heap.size w6 _ := (((((From.refl w3.heap.size w6).setCell ⟨w.heap.size, 0, none⟩ hlo (.int .i64 k4)).setCell ⟨w.heap.size, 1, none⟩ hlo (.int .i64 a4)).setCell ⟨w.heap.size, 2, none⟩ hlo (.string t4)).setCell ⟨w.heap.size, 3, none⟩ hlo (.int .i64 n4)).setCell ⟨w.heap.size, 4, none⟩ hlo (.slice o4 l4 c4)
    have GX := Lib.hid (synAt.keep fr (Nat.le_of_lt hlo) _ _ HX6.out)
    have GB := Lib.hid (below_set5 B6.out (Nat.le_refl _) (.int .i64 k4) (.int .i64 a4) (.string t4) (.int .i64 n4) (.slice o4 l4 c4))
    obtain ⟨y0, y1, y2, y3, y4, yf, yl⟩ := X6.out
    have f0 := yf 0; have f1 := yf 1; have f2 := yf 2; have f3 := yf 3; have f4 := yf 4
    obtain ⟨z0, z1, z2, z3, z4, zf, zl⟩ := T6.out
    obtain ⟨r0, r1, r2, r3, r4⟩ := box5 y0 y1 y2 y3 y4 (.int .i64 k4) (.int .i64 a4) (.string t4) (.int .i64 n4) (.slice o4 l4 c4) _ rfl
    clear yf yl zf zl fr e3 hpR hlo H3
    refine Lib.hid ?_
    go_wp2
    refine bodyPost_ret (by simp [results, Tryz.results29, go_sem, r0, r1, r2, r3, r4]; rfl) rfl ?_
    exact ⟨_, _, HS.out, GB.out, .inl ⟨_, _, E3.out, rfl, GX.out⟩⟩
  · have E3 := Lib.hid e3
    have te : (((er : Nat) : Int) != (0 : Int)) = true := by rw [bne_iff_ne]; omega
    have te2 : (((er : Nat) : Int) == (0 : Int)) = false := by rw [beq_eq_false_iff_ne]; omega
    have HNE := Lib.hid hne
    clear e3 hne hpR H3
    refine Lib.hid ?_
    go_wp2_with fail
    have X7 := X6.out.below (Below.refl _ _).drew
    have B7 := Below.drew B6.out
    obtain ⟨y0, y1, y2, y3, y4, yf, yl⟩ := X6.out
    have f0 := yf 0; have f1 := yf 1; have f2 := yf 2; have f3 := yf 3; have f4 := yf 4
    have HB7 := Lib.hid B7; have HX7 := Lib.hid X7
    have hne2 : w.heap.size ≠ w2.heap.size := Nat.ne_of_lt HQ.out
    have hne3 := Ne.symm hne2
    obtain ⟨r0, r1, r2, r3, r4⟩ := box5 y0 y1 y2 y3 y4 (.int .i64 0) (.int .i64 0) (.string ⟨#[]⟩) (.int .i64 0) (.slice none 0 0) _ rfl
    obtain ⟨u0, u1, u2, u3, u4⟩ := box5 HX7.out.c0 HX7.out.c1 HX7.out.c2 HX7.out.c3 HX7.out.c4 (.int .i64 0) (.int .i64 0) (.string ⟨#[]⟩) (.int .i64 0) (.slice none 0 0) _ rfl
    clear yf yl B7 X7
    go_region
    all_goals
      go_wp2
      refine bodyPost_ret (by simp [results, Tryz.results29, go_sem, r0, r1, r2, r3, r4, u0, u1, u2, u3, u4]; rfl) rfl ?_
      exact ⟨_, _, HS.out, below_set5 HB7.out (Nat.le_refl _) (.int .i64 0) (.int .i64 0) (.string ⟨#[]⟩) (.int .i64 0) (.slice none 0 0), .inr ⟨_, _, E3.out, HNE.out, rfl⟩⟩
set_option maxRecDepth 20000 in
set_option maxHeartbeats 4000000 in
theorem pparse_procedure (s : ByteArray) (w : World) (L : List Tk) (hL : L = (scR s).1) (he : (scR s).2.2 = 0) (ht : Lib.TabBelow Tryz.prog w.heap.size w "surveyor/lexer.classes" .u8 clsTab) (hev : EvAt w) (hT : TkL L) (Q : Syn → RSt → Prop)
    (KC : ∀ (R : Nat) (W : World), At R L W 0 (.ok L) → Calls Tryz.prog 47 #[.pointer (some ⟨R, 0, none⟩)] W fun e W' => ∃ x v st', e = .returned v ∧ synAt W.heap.size W' x v ∧ Q x st' ∧ At R L W' 0 st' ∧ Butt R W W') :
    Calls Tryz.prog 29 #[.string s, .func (.func 47) #[] #[]] w fun e w' => ∃ x st', Q x st' ∧ Below w.heap.size w w' ∧
      ((∃ l v, needS (tIs L st' ⟨#[]⟩) st' = .ok l ∧ e = .returned (.tuple #[v, .int .i64 0, .int .i64 0]) ∧ synAt w.heap.size w' x v) ∨
       (∃ a c, needS (tIs L st' ⟨#[]⟩) st' = .bad a c ∧ c ≠ 0 ∧ e = .returned (.tuple #[(.agg #[.int .i64 0, .int .i64 0, .string ⟨#[]⟩, .int .i64 0, .slice none 0 0]), .int .i64 a, .int .i64 (c : Nat)]))) := by
  have hA : Below w.heap.size w (w.alloc (Obj.cells #[.int .i64 0, .int .i64 0, .string ⟨#[]⟩, .int .i64 0, .slice none 0 0] 25)) := (Below.refl _ _).alloc (Nat.le_refl _) _
  have hT2 : Lib.TabBelow Tryz.prog (w.alloc (Obj.cells #[.int .i64 0, .int .i64 0, .string ⟨#[]⟩, .int .i64 0, .slice none 0 0] 25)).heap.size (w.alloc (Obj.cells #[.int .i64 0, .int .i64 0, .string ⟨#[]⟩, .int .i64 0, .slice none 0 0] 25)) "surveyor/lexer.classes" .u8 clsTab := fun W hW => ht W (Below.chain hA hW)
  have CS := scan_any s (w.alloc (Obj.cells #[.int .i64 0, .int .i64 0, .string ⟨#[]⟩, .int .i64 0, .slice none 0 0] 25)) hT2
  rw [he, ← hL] at CS
  have hX := Bx5.new w (.int .i64 0) (.int .i64 0) (.string ⟨#[]⟩) (.int .i64 0) (.slice none 0 0)
  have KS := Lib.hid CS; have HA := Lib.hid hA; have HX := Lib.hid hX; have HT := Lib.hid ht; have HEV := Lib.hid hev; have HTL := Lib.hid hT; have KQ := Lib.hid KC
  generalize (scR s).2.1 = at_ at *
  clear CS hA hX ht hev hT he KC hT2 hL
  go_enter Tryz.func29, Tryz.ntmps29
  go_wp2_with (go_at_call 20; refine (KS.out).mono ?_; rintro e w2 ⟨v, rfl, ho, hb2⟩; refine Hid.out ?_)
  obtain ⟨ao, c, rfl, hrow⟩ := TRow.of_owns ho
  have hB2 := Below.chain HA.out hb2
  have X2 := Lib.hid (HX.out.below hb2); have B2 := Lib.hid hB2; have HRW := Lib.hid hrow
  have CN := pnewReader L ao L.length c w2 rfl hrow HTL.out (fun W hW => HT.out W (Below.chain hB2 hW)) (fun k hk => by
    obtain ⟨e1, ev, e2, e3⟩ := HEV.out k hk
    exact ⟨Nat.lt_of_lt_of_le e1 hB2.size, ev, (hB2.cell (p := ⟨k, 0, none⟩) e1).trans e2, e3⟩)
  have KN := Lib.hid CN
  clear ho hb2 hrow hB2 CN
  refine Lib.hid ?_
  go_wp2_with (go_at_call 54; refine (KN.out).mono ?_; rintro e w3 ⟨rfl, ha3, hb3⟩; refine Hid.out ?_)
  have hq : w.heap.size < w2.heap.size := X2.out.lt
  have A3 := Lib.hid ha3; have B3 := Lib.hid (Below.chain B2.out hb3); have X3 := Lib.hid (X2.out.below hb3); have HQ := Lib.hid hq; have HR3 := Lib.hid ha3.fix.lt
  clear ha3 hb3 hq
  refine Lib.hid ?_
  go_wp2_with (go_at_call 47; refine (KQ.out _ _ A3.out).mono ?_; rintro e w4 ⟨x, v, s4, rfl, hx, hs, ha4, hb4⟩; refine Hid.out ?_)
  obtain ⟨k4, a4, t4, n4, o4, l4, c4, q4, rfl, rfl, hk4⟩ := hx.shape
  have hpR : w.heap.size ≠ w2.heap.size := Nat.ne_of_lt HQ.out
  have A4 := Lib.hid ha4; have X4 := Lib.hid (X3.out.butt hpR hb4); have HS := Lib.hid hs; have HX4 := Lib.hid hx
  have B4 := Lib.hid (B3.out.trans (Below.down (hb4.below HR3.out) (Nat.le_of_lt HQ.out)))
  clear ha4 hb4 hs hx hk4
  refine Lib.hid ?_
  have A5 := Lib.hid (A4.out.alloc (Obj.cells #[.int .i64 k4, .int .i64 a4, .string t4, .int .i64 n4, .slice o4 l4 c4] 25))
  have X5 := Lib.hid (X4.out.alloc (Obj.cells #[.int .i64 k4, .int .i64 a4, .string t4, .int .i64 n4, .slice o4 l4 c4] 25))
  have T5 := Lib.hid (Bx5.new w4 (.int .i64 k4) (.int .i64 a4) (.string t4) (.int .i64 n4) (.slice o4 l4 c4))
  have PT5 : Hid (w4.heap.size ≠ w2.heap.size) := Lib.hid (fun e => by have := A4.out.fix.lt; omega)
  go_wp2_with (go_at_call 55; refine (sexpect A5.out ⟨#[]⟩).mono ?_; rintro e w6 ⟨rfl, ha6, hb6⟩; refine Hid.out ?_)
  have X6 := Lib.hid (X5.out.butt hpR hb6); have T6 := Lib.hid (T5.out.butt PT5.out hb6)
  have BA : Below w4.heap.size w4 (w4.alloc (Obj.cells #[.int .i64 k4, .int .i64 a4, .string t4, .int .i64 n4, .slice o4 l4 c4] 25)) := (Below.refl _ _).alloc (Nat.le_refl _) _
  have B6 : Hid (Below w.heap.size w w6) := Lib.hid ((Below.chain B4.out BA).trans (Below.down (hb6.below A5.out.fix.lt) (Nat.le_of_lt HQ.out)))
  have HX6 := Lib.hid (synAt.keep (hb6.froms HR3.out) (Nat.le_refl _) _ _ (synAt.keep (From.of_below BA) (Nat.le_refl _) _ _ HX4.out))
  clear BA
  obtain ⟨hf6, nx, a, er, h1, h2, h3⟩ := ha6
  have c3 := h2.c3
  have c4' := h2.c4
  have H3 := Lib.hid h3
  clear hf6 h1 h2 hb6
  rcases h3 with ⟨rfl, rfl, e3⟩ | ⟨hne, rfl, e3⟩
  · have E3 := Lib.hid e3
    have hlo : w.heap.size < w3.heap.size := Nat.lt_of_lt_of_le HQ.out (Nat.le_of_lt HR3.out)
    have fr : From w3.heap.size w6 _ := (((((From.refl w3.heap.size w6).setCell ⟨w.heap.size, 0, none⟩ hlo (.int .i64 k4)).setCell ⟨w.heap.size, 1, none⟩ hlo (.int .i64 a4)).setCell ⟨w.heap.size, 2, none⟩ hlo (.string t4)).setCell ⟨w.heap.size, 3, none⟩ hlo (.int .i64 n4)).setCell ⟨w.heap.size, 4, none⟩ hlo (.slice o4 l4 c4)
    have GX := Lib.hid (synAt.keep fr (Nat.le_of_lt hlo) _ _ HX6.out)
    have GB := Lib.hid (below_set5 B6.out (Nat.le_refl _) (.int .i64 k4) (.int .i64 a4) (.string t4) (.int .i64 n4) (.slice o4 l4 c4))
    obtain ⟨y0, y1, y2, y3, y4, yf, yl⟩ := X6.out
    have f0 := yf 0; have f1 := yf 1; have f2 := yf 2; have f3 := yf 3; have f4 := yf 4
    obtain ⟨z0, z1, z2, z3, z4, zf, zl⟩ := T6.out
    obtain ⟨r0, r1, r2, r3, r4⟩ := box5 y0 y1 y2 y3 y4 (.int .i64 k4) (.int .i64 a4) (.string t4) (.int .i64 n4) (.slice o4 l4 c4) _ rfl
    clear yf yl zf zl fr e3 hpR hlo H3
    refine Lib.hid ?_
    go_wp2
    refine bodyPost_ret (by simp [results, Tryz.results29, go_sem, r0, r1, r2, r3, r4]; rfl) rfl ?_
    exact ⟨_, _, HS.out, GB.out, .inl ⟨_, _, E3.out, rfl, GX.out⟩⟩
  · have E3 := Lib.hid e3
    have te : (((er : Nat) : Int) != (0 : Int)) = true := by rw [bne_iff_ne]; omega
    have te2 : (((er : Nat) : Int) == (0 : Int)) = false := by rw [beq_eq_false_iff_ne]; omega
    have HNE := Lib.hid hne
    clear e3 hne hpR H3
    refine Lib.hid ?_
    go_wp2_with fail
    have X7 := X6.out.below (Below.refl _ _).drew
    have B7 := Below.drew B6.out
    obtain ⟨y0, y1, y2, y3, y4, yf, yl⟩ := X6.out
    have f0 := yf 0; have f1 := yf 1; have f2 := yf 2; have f3 := yf 3; have f4 := yf 4
    have HB7 := Lib.hid B7; have HX7 := Lib.hid X7
    have hne2 : w.heap.size ≠ w2.heap.size := Nat.ne_of_lt HQ.out
    have hne3 := Ne.symm hne2
    obtain ⟨r0, r1, r2, r3, r4⟩ := box5 y0 y1 y2 y3 y4 (.int .i64 0) (.int .i64 0) (.string ⟨#[]⟩) (.int .i64 0) (.slice none 0 0) _ rfl
    obtain ⟨u0, u1, u2, u3, u4⟩ := box5 HX7.out.c0 HX7.out.c1 HX7.out.c2 HX7.out.c3 HX7.out.c4 (.int .i64 0) (.int .i64 0) (.string ⟨#[]⟩) (.int .i64 0) (.slice none 0 0) _ rfl
    clear yf yl B7 X7
    go_region
    all_goals
      go_wp2
      refine bodyPost_ret (by simp [results, Tryz.results29, go_sem, r0, r1, r2, r3, r4, u0, u1, u2, u3, u4]; rfl) rfl ?_
      exact ⟨_, _, HS.out, below_set5 HB7.out (Nat.le_refl _) (.int .i64 0) (.int .i64 0) (.string ⟨#[]⟩) (.int .i64 0) (.slice none 0 0), .inr ⟨_, _, E3.out, HNE.out, rfl⟩⟩
set_option maxRecDepth 20000 in
set_option maxHeartbeats 4000000 in
theorem pparse_condition (s : ByteArray) (w : World) (L : List Tk) (hL : L = (scR s).1) (he : (scR s).2.2 = 0) (ht : Lib.TabBelow Tryz.prog w.heap.size w "surveyor/lexer.classes" .u8 clsTab) (hev : EvAt w) (hT : TkL L) (Q : Syn → RSt → Prop)
    (KC : ∀ (R : Nat) (W : World), At R L W 0 (.ok L) → Calls Tryz.prog 41 #[.pointer (some ⟨R, 0, none⟩)] W fun e W' => ∃ x v st', e = .returned v ∧ synAt W.heap.size W' x v ∧ Q x st' ∧ At R L W' 0 st' ∧ Butt R W W') :
    Calls Tryz.prog 29 #[.string s, .func (.func 41) #[] #[]] w fun e w' => ∃ x st', Q x st' ∧ Below w.heap.size w w' ∧
      ((∃ l v, needS (tIs L st' ⟨#[]⟩) st' = .ok l ∧ e = .returned (.tuple #[v, .int .i64 0, .int .i64 0]) ∧ synAt w.heap.size w' x v) ∨
       (∃ a c, needS (tIs L st' ⟨#[]⟩) st' = .bad a c ∧ c ≠ 0 ∧ e = .returned (.tuple #[(.agg #[.int .i64 0, .int .i64 0, .string ⟨#[]⟩, .int .i64 0, .slice none 0 0]), .int .i64 a, .int .i64 (c : Nat)]))) := by
  have hA : Below w.heap.size w (w.alloc (Obj.cells #[.int .i64 0, .int .i64 0, .string ⟨#[]⟩, .int .i64 0, .slice none 0 0] 25)) := (Below.refl _ _).alloc (Nat.le_refl _) _
  have hT2 : Lib.TabBelow Tryz.prog (w.alloc (Obj.cells #[.int .i64 0, .int .i64 0, .string ⟨#[]⟩, .int .i64 0, .slice none 0 0] 25)).heap.size (w.alloc (Obj.cells #[.int .i64 0, .int .i64 0, .string ⟨#[]⟩, .int .i64 0, .slice none 0 0] 25)) "surveyor/lexer.classes" .u8 clsTab := fun W hW => ht W (Below.chain hA hW)
  have CS := scan_any s (w.alloc (Obj.cells #[.int .i64 0, .int .i64 0, .string ⟨#[]⟩, .int .i64 0, .slice none 0 0] 25)) hT2
  rw [he, ← hL] at CS
  have hX := Bx5.new w (.int .i64 0) (.int .i64 0) (.string ⟨#[]⟩) (.int .i64 0) (.slice none 0 0)
  have KS := Lib.hid CS; have HA := Lib.hid hA; have HX := Lib.hid hX; have HT := Lib.hid ht; have HEV := Lib.hid hev; have HTL := Lib.hid hT; have KQ := Lib.hid KC
  generalize (scR s).2.1 = at_ at *
  clear CS hA hX ht hev hT he KC hT2 hL
  go_enter Tryz.func29, Tryz.ntmps29
  go_wp2_with (go_at_call 20; refine (KS.out).mono ?_; rintro e w2 ⟨v, rfl, ho, hb2⟩; refine Hid.out ?_)
  obtain ⟨ao, c, rfl, hrow⟩ := TRow.of_owns ho
  have hB2 := Below.chain HA.out hb2
  have X2 := Lib.hid (HX.out.below hb2); have B2 := Lib.hid hB2; have HRW := Lib.hid hrow
  have CN := pnewReader L ao L.length c w2 rfl hrow HTL.out (fun W hW => HT.out W (Below.chain hB2 hW)) (fun k hk => by
    obtain ⟨e1, ev, e2, e3⟩ := HEV.out k hk
    exact ⟨Nat.lt_of_lt_of_le e1 hB2.size, ev, (hB2.cell (p := ⟨k, 0, none⟩) e1).trans e2, e3⟩)
  have KN := Lib.hid CN
  clear ho hb2 hrow hB2 CN
  refine Lib.hid ?_
  go_wp2_with (go_at_call 54; refine (KN.out).mono ?_; rintro e w3 ⟨rfl, ha3, hb3⟩; refine Hid.out ?_)
  have hq : w.heap.size < w2.heap.size := X2.out.lt
  have A3 := Lib.hid ha3; have B3 := Lib.hid (Below.chain B2.out hb3); have X3 := Lib.hid (X2.out.below hb3); have HQ := Lib.hid hq; have HR3 := Lib.hid ha3.fix.lt
  clear ha3 hb3 hq
  refine Lib.hid ?_
  go_wp2_with (go_at_call 41; refine (KQ.out _ _ A3.out).mono ?_; rintro e w4 ⟨x, v, s4, rfl, hx, hs, ha4, hb4⟩; refine Hid.out ?_)
  obtain ⟨k4, a4, t4, n4, o4, l4, c4, q4, rfl, rfl, hk4⟩ := hx.shape
  have hpR : w.heap.size ≠ w2.heap.size := Nat.ne_of_lt HQ.out
  have A4 := Lib.hid ha4; have X4 := Lib.hid (X3.out.butt hpR hb4); have HS := Lib.hid hs; have HX4 := Lib.hid hx
  have B4 := Lib.hid (B3.out.trans (Below.down (hb4.below HR3.out) (Nat.le_of_lt HQ.out)))
  clear ha4 hb4 hs hx hk4
  refine Lib.hid ?_
  have A5 := Lib.hid (A4.out.alloc (Obj.cells #[.int .i64 k4, .int .i64 a4, .string t4, .int .i64 n4, .slice o4 l4 c4] 25))
  have X5 := Lib.hid (X4.out.alloc (Obj.cells #[.int .i64 k4, .int .i64 a4, .string t4, .int .i64 n4, .slice o4 l4 c4] 25))
  have T5 := Lib.hid (Bx5.new w4 (.int .i64 k4) (.int .i64 a4) (.string t4) (.int .i64 n4) (.slice o4 l4 c4))
  have PT5 : Hid (w4.heap.size ≠ w2.heap.size) := Lib.hid (fun e => by have := A4.out.fix.lt; omega)
  go_wp2_with (go_at_call 55; refine (sexpect A5.out ⟨#[]⟩).mono ?_; rintro e w6 ⟨rfl, ha6, hb6⟩; refine Hid.out ?_)
  have X6 := Lib.hid (X5.out.butt hpR hb6); have T6 := Lib.hid (T5.out.butt PT5.out hb6)
  have BA : Below w4.heap.size w4 (w4.alloc (Obj.cells #[.int .i64 k4, .int .i64 a4, .string t4, .int .i64 n4, .slice o4 l4 c4] 25)) := (Below.refl _ _).alloc (Nat.le_refl _) _
  have B6 : Hid (Below w.heap.size w w6) := Lib.hid ((Below.chain B4.out BA).trans (Below.down (hb6.below A5.out.fix.lt) (Nat.le_of_lt HQ.out)))
  have HX6 := Lib.hid (synAt.keep (hb6.froms HR3.out) (Nat.le_refl _) _ _ (synAt.keep (From.of_below BA) (Nat.le_refl _) _ _ HX4.out))
  clear BA
  obtain ⟨hf6, nx, a, er, h1, h2, h3⟩ := ha6
  have c3 := h2.c3
  have c4' := h2.c4
  have H3 := Lib.hid h3
  clear hf6 h1 h2 hb6
  rcases h3 with ⟨rfl, rfl, e3⟩ | ⟨hne, rfl, e3⟩
  · have E3 := Lib.hid e3
    have hlo : w.heap.size < w3.heap.size := Nat.lt_of_lt_of_le HQ.out (Nat.le_of_lt HR3.out)
    have fr : From w3.heap.size w6 _ := (((((From.refl w3.heap.size w6).setCell ⟨w.heap.size, 0, none⟩ hlo (.int .i64 k4)).setCell ⟨w.heap.size, 1, none⟩ hlo (.int .i64 a4)).setCell ⟨w.heap.size, 2, none⟩ hlo (.string t4)).setCell ⟨w.heap.size, 3, none⟩ hlo (.int .i64 n4)).setCell ⟨w.heap.size, 4, none⟩ hlo (.slice o4 l4 c4)
    have GX := Lib.hid (synAt.keep fr (Nat.le_of_lt hlo) _ _ HX6.out)
    have GB := Lib.hid (below_set5 B6.out (Nat.le_refl _) (.int .i64 k4) (.int .i64 a4) (.string t4) (.int .i64 n4) (.slice o4 l4 c4))
    obtain ⟨y0, y1, y2, y3, y4, yf, yl⟩ := X6.out
    have f0 := yf 0; have f1 := yf 1; have f2 := yf 2; have f3 := yf 3; have f4 := yf 4
    obtain ⟨z0, z1, z2, z3, z4, zf, zl⟩ := T6.out
    obtain ⟨r0, r1, r2, r3, r4⟩ := box5 y0 y1 y2 y3 y4 (.int .i64 k4) (.int .i64 a4) (.string t4) (.int .i64 n4) (.slice o4 l4 c4) _ rfl
    clear yf yl zf zl fr e3 hpR hlo H3
    refine Lib.hid ?_
    go_wp2
    refine bodyPost_ret (by simp [results, Tryz.results29, go_sem, r0, r1, r2, r3, r4]; rfl) rfl ?_
    exact ⟨_, _, HS.out, GB.out, .inl ⟨_, _, E3.out, rfl, GX.out⟩⟩
  · have E3 := Lib.hid e3
    have te : (((er : Nat) : Int) != (0 : Int)) = true := by rw [bne_iff_ne]; omega
    have te2 : (((er : Nat) : Int) == (0 : Int)) = false := by rw [beq_eq_false_iff_ne]; omega
    have HNE := Lib.hid hne
    clear e3 hne hpR H3
    refine Lib.hid ?_
    go_wp2_with fail
    have X7 := X6.out.below (Below.refl _ _).drew
    have B7 := Below.drew B6.out
    obtain ⟨y0, y1, y2, y3, y4, yf, yl⟩ := X6.out
    have f0 := yf 0; have f1 := yf 1; have f2 := yf 2; have f3 := yf 3; have f4 := yf 4
    have HB7 := Lib.hid B7; have HX7 := Lib.hid X7
    have hne2 : w.heap.size ≠ w2.heap.size := Nat.ne_of_lt HQ.out
    have hne3 := Ne.symm hne2
    obtain ⟨r0, r1, r2, r3, r4⟩ := box5 y0 y1 y2 y3 y4 (.int .i64 0) (.int .i64 0) (.string ⟨#[]⟩) (.int .i64 0) (.slice none 0 0) _ rfl
    obtain ⟨u0, u1, u2, u3, u4⟩ := box5 HX7.out.c0 HX7.out.c1 HX7.out.c2 HX7.out.c3 HX7.out.c4 (.int .i64 0) (.int .i64 0) (.string ⟨#[]⟩) (.int .i64 0) (.slice none 0 0) _ rfl
    clear yf yl B7 X7
    go_region
    all_goals
      go_wp2
      refine bodyPost_ret (by simp [results, Tryz.results29, go_sem, r0, r1, r2, r3, r4, u0, u1, u2, u3, u4]; rfl) rfl ?_
      exact ⟨_, _, HS.out, below_set5 HB7.out (Nat.le_refl _) (.int .i64 0) (.int .i64 0) (.string ⟨#[]⟩) (.int .i64 0) (.slice none 0 0), .inr ⟨_, _, E3.out, HNE.out, rfl⟩⟩
set_option maxRecDepth 20000 in
set_option maxHeartbeats 4000000 in
theorem pparse_expression (s : ByteArray) (w : World) (L : List Tk) (hL : L = (scR s).1) (he : (scR s).2.2 = 0) (ht : Lib.TabBelow Tryz.prog w.heap.size w "surveyor/lexer.classes" .u8 clsTab) (hev : EvAt w) (hT : TkL L) (Q : Syn → RSt → Prop)
    (KC : ∀ (R : Nat) (W : World), At R L W 0 (.ok L) → Calls Tryz.prog 46 #[.pointer (some ⟨R, 0, none⟩)] W fun e W' => ∃ x v st', e = .returned v ∧ synAt W.heap.size W' x v ∧ Q x st' ∧ At R L W' 0 st' ∧ Butt R W W') :
    Calls Tryz.prog 29 #[.string s, .func (.func 46) #[] #[]] w fun e w' => ∃ x st', Q x st' ∧ Below w.heap.size w w' ∧
      ((∃ l v, needS (tIs L st' ⟨#[]⟩) st' = .ok l ∧ e = .returned (.tuple #[v, .int .i64 0, .int .i64 0]) ∧ synAt w.heap.size w' x v) ∨
       (∃ a c, needS (tIs L st' ⟨#[]⟩) st' = .bad a c ∧ c ≠ 0 ∧ e = .returned (.tuple #[(.agg #[.int .i64 0, .int .i64 0, .string ⟨#[]⟩, .int .i64 0, .slice none 0 0]), .int .i64 a, .int .i64 (c : Nat)]))) := by
  have hA : Below w.heap.size w (w.alloc (Obj.cells #[.int .i64 0, .int .i64 0, .string ⟨#[]⟩, .int .i64 0, .slice none 0 0] 25)) := (Below.refl _ _).alloc (Nat.le_refl _) _
  have hT2 : Lib.TabBelow Tryz.prog (w.alloc (Obj.cells #[.int .i64 0, .int .i64 0, .string ⟨#[]⟩, .int .i64 0, .slice none 0 0] 25)).heap.size (w.alloc (Obj.cells #[.int .i64 0, .int .i64 0, .string ⟨#[]⟩, .int .i64 0, .slice none 0 0] 25)) "surveyor/lexer.classes" .u8 clsTab := fun W hW => ht W (Below.chain hA hW)
  have CS := scan_any s (w.alloc (Obj.cells #[.int .i64 0, .int .i64 0, .string ⟨#[]⟩, .int .i64 0, .slice none 0 0] 25)) hT2
  rw [he, ← hL] at CS
  have hX := Bx5.new w (.int .i64 0) (.int .i64 0) (.string ⟨#[]⟩) (.int .i64 0) (.slice none 0 0)
  have KS := Lib.hid CS; have HA := Lib.hid hA; have HX := Lib.hid hX; have HT := Lib.hid ht; have HEV := Lib.hid hev; have HTL := Lib.hid hT; have KQ := Lib.hid KC
  generalize (scR s).2.1 = at_ at *
  clear CS hA hX ht hev hT he KC hT2 hL
  go_enter Tryz.func29, Tryz.ntmps29
  go_wp2_with (go_at_call 20; refine (KS.out).mono ?_; rintro e w2 ⟨v, rfl, ho, hb2⟩; refine Hid.out ?_)
  obtain ⟨ao, c, rfl, hrow⟩ := TRow.of_owns ho
  have hB2 := Below.chain HA.out hb2
  have X2 := Lib.hid (HX.out.below hb2); have B2 := Lib.hid hB2; have HRW := Lib.hid hrow
  have CN := pnewReader L ao L.length c w2 rfl hrow HTL.out (fun W hW => HT.out W (Below.chain hB2 hW)) (fun k hk => by
    obtain ⟨e1, ev, e2, e3⟩ := HEV.out k hk
    exact ⟨Nat.lt_of_lt_of_le e1 hB2.size, ev, (hB2.cell (p := ⟨k, 0, none⟩) e1).trans e2, e3⟩)
  have KN := Lib.hid CN
  clear ho hb2 hrow hB2 CN
  refine Lib.hid ?_
  go_wp2_with (go_at_call 54; refine (KN.out).mono ?_; rintro e w3 ⟨rfl, ha3, hb3⟩; refine Hid.out ?_)
  have hq : w.heap.size < w2.heap.size := X2.out.lt
  have A3 := Lib.hid ha3; have B3 := Lib.hid (Below.chain B2.out hb3); have X3 := Lib.hid (X2.out.below hb3); have HQ := Lib.hid hq; have HR3 := Lib.hid ha3.fix.lt
  clear ha3 hb3 hq
  refine Lib.hid ?_
  go_wp2_with (go_at_call 46; refine (KQ.out _ _ A3.out).mono ?_; rintro e w4 ⟨x, v, s4, rfl, hx, hs, ha4, hb4⟩; refine Hid.out ?_)
  obtain ⟨k4, a4, t4, n4, o4, l4, c4, q4, rfl, rfl, hk4⟩ := hx.shape
  have hpR : w.heap.size ≠ w2.heap.size := Nat.ne_of_lt HQ.out
  have A4 := Lib.hid ha4; have X4 := Lib.hid (X3.out.butt hpR hb4); have HS := Lib.hid hs; have HX4 := Lib.hid hx
  have B4 := Lib.hid (B3.out.trans (Below.down (hb4.below HR3.out) (Nat.le_of_lt HQ.out)))
  clear ha4 hb4 hs hx hk4
  refine Lib.hid ?_
  have A5 := Lib.hid (A4.out.alloc (Obj.cells #[.int .i64 k4, .int .i64 a4, .string t4, .int .i64 n4, .slice o4 l4 c4] 25))
  have X5 := Lib.hid (X4.out.alloc (Obj.cells #[.int .i64 k4, .int .i64 a4, .string t4, .int .i64 n4, .slice o4 l4 c4] 25))
  have T5 := Lib.hid (Bx5.new w4 (.int .i64 k4) (.int .i64 a4) (.string t4) (.int .i64 n4) (.slice o4 l4 c4))
  have PT5 : Hid (w4.heap.size ≠ w2.heap.size) := Lib.hid (fun e => by have := A4.out.fix.lt; omega)
  go_wp2_with (go_at_call 55; refine (sexpect A5.out ⟨#[]⟩).mono ?_; rintro e w6 ⟨rfl, ha6, hb6⟩; refine Hid.out ?_)
  have X6 := Lib.hid (X5.out.butt hpR hb6); have T6 := Lib.hid (T5.out.butt PT5.out hb6)
  have BA : Below w4.heap.size w4 (w4.alloc (Obj.cells #[.int .i64 k4, .int .i64 a4, .string t4, .int .i64 n4, .slice o4 l4 c4] 25)) := (Below.refl _ _).alloc (Nat.le_refl _) _
  have B6 : Hid (Below w.heap.size w w6) := Lib.hid ((Below.chain B4.out BA).trans (Below.down (hb6.below A5.out.fix.lt) (Nat.le_of_lt HQ.out)))
  have HX6 := Lib.hid (synAt.keep (hb6.froms HR3.out) (Nat.le_refl _) _ _ (synAt.keep (From.of_below BA) (Nat.le_refl _) _ _ HX4.out))
  clear BA
  obtain ⟨hf6, nx, a, er, h1, h2, h3⟩ := ha6
  have c3 := h2.c3
  have c4' := h2.c4
  have H3 := Lib.hid h3
  clear hf6 h1 h2 hb6
  rcases h3 with ⟨rfl, rfl, e3⟩ | ⟨hne, rfl, e3⟩
  · have E3 := Lib.hid e3
    have hlo : w.heap.size < w3.heap.size := Nat.lt_of_lt_of_le HQ.out (Nat.le_of_lt HR3.out)
    have fr : From w3.heap.size w6 _ := (((((From.refl w3.heap.size w6).setCell ⟨w.heap.size, 0, none⟩ hlo (.int .i64 k4)).setCell ⟨w.heap.size, 1, none⟩ hlo (.int .i64 a4)).setCell ⟨w.heap.size, 2, none⟩ hlo (.string t4)).setCell ⟨w.heap.size, 3, none⟩ hlo (.int .i64 n4)).setCell ⟨w.heap.size, 4, none⟩ hlo (.slice o4 l4 c4)
    have GX := Lib.hid (synAt.keep fr (Nat.le_of_lt hlo) _ _ HX6.out)
    have GB := Lib.hid (below_set5 B6.out (Nat.le_refl _) (.int .i64 k4) (.int .i64 a4) (.string t4) (.int .i64 n4) (.slice o4 l4 c4))
    obtain ⟨y0, y1, y2, y3, y4, yf, yl⟩ := X6.out
    have f0 := yf 0; have f1 := yf 1; have f2 := yf 2; have f3 := yf 3; have f4 := yf 4
    obtain ⟨z0, z1, z2, z3, z4, zf, zl⟩ := T6.out
    obtain ⟨r0, r1, r2, r3, r4⟩ := box5 y0 y1 y2 y3 y4 (.int .i64 k4) (.int .i64 a4) (.string t4) (.int .i64 n4) (.slice o4 l4 c4) _ rfl
    clear yf yl zf zl fr e3 hpR hlo H3
    refine Lib.hid ?_
    go_wp2
    refine bodyPost_ret (by simp [results, Tryz.results29, go_sem, r0, r1, r2, r3, r4]; rfl) rfl ?_
    exact ⟨_, _, HS.out, GB.out, .inl ⟨_, _, E3.out, rfl, GX.out⟩⟩
  · have E3 := Lib.hid e3
    have te : (((er : Nat) : Int) != (0 : Int)) = true := by rw [bne_iff_ne]; omega
    have te2 : (((er : Nat) : Int) == (0 : Int)) = false := by rw [beq_eq_false_iff_ne]; omega
    have HNE := Lib.hid hne
    clear e3 hne hpR H3
    refine Lib.hid ?_
    go_wp2_with fail
    have X7 := X6.out.below (Below.refl _ _).drew
    have B7 := Below.drew B6.out
    obtain ⟨y0, y1, y2, y3, y4, yf, yl⟩ := X6.out
    have f0 := yf 0; have f1 := yf 1; have f2 := yf 2; have f3 := yf 3; have f4 := yf 4
    have HB7 := Lib.hid B7; have HX7 := Lib.hid X7
    have hne2 : w.heap.size ≠ w2.heap.size := Nat.ne_of_lt HQ.out
    have hne3 := Ne.symm hne2
    obtain ⟨r0, r1, r2, r3, r4⟩ := box5 y0 y1 y2 y3 y4 (.int .i64 0) (.int .i64 0) (.string ⟨#[]⟩) (.int .i64 0) (.slice none 0 0) _ rfl
    obtain ⟨u0, u1, u2, u3, u4⟩ := box5 HX7.out.c0 HX7.out.c1 HX7.out.c2 HX7.out.c3 HX7.out.c4 (.int .i64 0) (.int .i64 0) (.string ⟨#[]⟩) (.int .i64 0) (.slice none 0 0) _ rfl
    clear yf yl B7 X7
    go_region
    all_goals
      go_wp2
      refine bodyPost_ret (by simp [results, Tryz.results29, go_sem, r0, r1, r2, r3, r4, u0, u1, u2, u3, u4]; rfl) rfl ?_
      exact ⟨_, _, HS.out, below_set5 HB7.out (Nat.le_refl _) (.int .i64 0) (.int .i64 0) (.string ⟨#[]⟩) (.int .i64 0) (.slice none 0 0), .inr ⟨_, _, E3.out, HNE.out, rfl⟩⟩
end Go.Proofs.YtdibcllakkjegaaGreatDoor

set_option linter.unusedSimpArgs false
set_option linter.unusedVariables false
namespace Go.Proofs.YtdibcllakkjegaaGreatDoor
open Go Go.Proofs Go.RowKit
theorem cls4_in (c : UInt8) (h : cls c.toNat = 4) : 48 ≤ c.toNat ∧ c.toNat ≤ 57 := by
  have g : ∀ n, n < 256 → cls n = 4 → 48 ≤ n ∧ n ≤ 57 := by decide +kernel
  have g2 := g c.toNat (UInt8.toNat_lt c)
  exact g2 h
def pNumF (a : Nat) (l : List UInt8) : Nat := l.foldl (fun n c => n * 10 + (c.toNat - 48)) a
theorem pNumF_cons (a : Nat) (c : UInt8) (l : List UInt8) : pNumF a (c :: l) = pNumF (a * 10 + (c.toNat - 48)) l := by unfold pNumF; rw [List.foldl_cons]
theorem pNumF_ge : ∀ (l : List UInt8) (a : Nat), a ≤ pNumF a l
  | [], a => Nat.le_refl a
  | c :: l, a => by
    rw [pNumF_cons]
    have := pNumF_ge l (a * 10 + (c.toNat - 48))
    omega
theorem uint10 : ∀ (l : List UInt8) (a : Nat), (∀ c ∈ l, cls c.toNat = 4) → Lib.parseUint10 a l = .ok (pNumF a l) ∨ (Lib.parseUint10 a l = .range ∧ 18446744073709551616 ≤ pNumF a l)
  | [], a, _ => .inl rfl
  | c :: l, a, h => by
    have hc := cls4_in c (h c (by simp))
    have hg := pNumF_ge l (a * 10 + (c.toNat - 48))
    rw [pNumF_cons]
    rw [Lib.parseUint10, if_pos hc]
    by_cases h1 : 1844674407370955162 ≤ a
    · rw [if_pos h1]
      exact .inr ⟨rfl, by omega⟩
    · rw [if_neg h1]
      by_cases h2 : 18446744073709551616 ≤ a * 10 + (c.toNat - 48)
      · rw [if_pos h2]
        exact .inr ⟨rfl, by omega⟩
      · rw [if_neg h2]
        exact uint10 l _ fun d hd => h d (by simp [hd])
theorem atoi_digits {l : List UInt8} (hl : l ≠ []) (h : ∀ c ∈ l, cls c.toNat = 4) : (Lib.atoiAll l = .ok (pNum l : Nat) ∧ pNum l ≤ 9223372036854775807) ∨ (Lib.atoiAll l = .range ∧ 1048576 < pNum l) := by
  obtain ⟨c, r, rfl⟩ := List.exists_cons_of_ne_nil hl
  have hc := cls4_in c (h c (by simp))
  have hp : pNum (c :: r) = pNumF 0 (c :: r) := rfl
  rw [Lib.atoiAll_plain c r (by omega) (by omega), hp, Lib.parseMag, if_neg (by simp)]
  rcases uint10 (c :: r) 0 h with e | ⟨e, hb⟩
  · rw [e, Lib.signless]
    by_cases hb : 9223372036854775808 ≤ pNumF 0 (c :: r)
    · rw [if_pos hb]; exact .inr ⟨rfl, by omega⟩
    · rw [if_neg hb]; exact .inl ⟨rfl, by omega⟩
  · rw [e]; exact .inr ⟨rfl, by omega⟩
theorem num_digits {x : List UInt8} (h : okX x) (hk : tkd x = 1) : ∀ c ∈ x, cls c.toNat = 4 := by
  have hn := num_ok.2 ⟨h, hk⟩
  have had : adB x = true := by
    unfold numErr at hn
    split at hn
    · assumption
    · cases hn
  unfold adB at had
  rw [Bool.and_eq_true, List.all_eq_true] at had
  intro c hc
  have := had.1 c hc
  unfold dgB at this
  exact of_decide_eq_true this
theorem okX_len {x : List UInt8} (h : okX x) : x.length ≤ 100 := by
  rcases tkd_in x with e | e | e
  · have := word_ok.2 ⟨h, e⟩
    unfold iwB at this
    simp only [Bool.and_eq_true, decide_eq_true_iff] at this
    omega
  · have hn := num_ok.2 ⟨h, e⟩
    unfold numErr at hn
    split at hn
    · split at hn
      · cases hn
      · split at hn
        · cases hn
        · omega
    · cases hn
  · have := (sign_ok.2 ⟨h, e⟩).2
    rw [← this]
    unfold sl
    split
    · omega
    · split <;> omega
theorem sq_count : ∀ (f a : Nat) (l : List UInt8), (sq f a l).1.length ≤ l.length + 1
  | 0, _, _ => Nat.zero_le _
  | f + 1, a, l => by
    rcases sq_cases f a l with ⟨-, -, e⟩ | ⟨k, m, -, -, -, -, -, -, e⟩ | ⟨k, x, z, -, -, hx, hl, -, -, -, -, -, e⟩
    · rw [e]; simp
    · rw [e]; simp
    · rw [e]
      have := sq_count f (a + k + x.length) z
      have hp : 0 < x.length := List.length_pos_iff.2 hx
      simp only [List.length_cons]
      omega
theorem scan_form {s : ByteArray} (hs : s.size ≤ 65536) (he : (scR s).2.2 = 0) : ∃ (V : List Tk) (e : Int), (scR s).1 = V ++ [⟨3, ⟨#[]⟩, e⟩] ∧ (∀ t ∈ V, okX (bytes t.t) ∧ t.k = tkd (bytes t.t)) ∧ V.length ≤ s.size := by
  obtain ⟨h1, h2, -⟩ := scR_ok hs he
  obtain ⟨V, e, hv, ho⟩ := sq_ok _ 0 (bytes s) (Nat.lt_succ_self _) h1
  have hc := sq_count ((bytes s).length + 1) 0 (bytes s)
  refine ⟨V.map toTk, (e : Int), ?_, ?_, ?_⟩
  · rw [h2, sqR, hv, List.map_append]; rfl
  · intro t ht
    obtain ⟨v, hv2, rfl⟩ := List.mem_map.1 ht
    have := ho v hv2
    have hb : bytes (toTk v).t = v.2.1 := bytes_str _
    rw [hb]
    exact this
  · rw [hv] at hc
    simp only [List.length_append, List.length_cons, List.length_nil] at hc
    rw [List.length_map]
    have hb : (bytes s).length = s.size := rfl
    omega
theorem scan_long {s : ByteArray} (he : (scR s).2.2 = 0) : s.size ≤ 65536 := by
  by_cases h : s.size ≤ 65536
  · exact h
  · unfold scR at he
    rw [if_pos (by omega)] at he
    cases he
section
variable {L V : List Tk} {e : Int} (hL : L = V ++ [⟨3, ⟨#[]⟩, e⟩]) (hV : ∀ t ∈ V, okX (bytes t.t) ∧ t.k = tkd (bytes t.t)) (hn : V.length ≤ 65536)
include hL hV
theorem tk_cases (n : Nat) : (n < V.length ∧ okX (bytes (tkD L n).t) ∧ (tkD L n).k = tkd (bytes (tkD L n).t)) ∨ (n = V.length ∧ tkD L n = ⟨3, ⟨#[]⟩, e⟩) ∨ (V.length < n ∧ tkD L n = ⟨0, ⟨#[]⟩, 0⟩) := by
  have hlen : L.length = V.length + 1 := by rw [hL]; simp
  rcases Nat.lt_trichotomy n V.length with h | h | h
  · refine .inl ⟨h, ?_⟩
    have e1 : tkD L n = V[n]'h := by
      rw [tkD_eq (by omega)]
      subst hL
      exact List.getElem_append_left h
    rw [e1]
    exact hV _ (List.getElem_mem h)
  · refine .inr (.inl ⟨h, ?_⟩)
    subst hL; subst h
    unfold tkD
    simp
  · refine .inr (.inr ⟨h, ?_⟩)
    unfold tkD
    rw [List.getD_eq_getElem?_getD, List.getElem?_eq_none (by omega)]
    rfl
include hn in
theorem tkL_of : TkL L := by
  have hlen : L.length = V.length + 1 := by rw [hL]; simp
  refine ⟨by omega, ?_, ?_, ?_⟩
  · intro q; rw [q] at hlen; simp at hlen
  · intro n
    rcases tk_cases hL hV n with ⟨-, h, -⟩ | ⟨-, h⟩ | ⟨-, h⟩
    · have := okX_len h
      have hb : (bytes (tkD L n).t).length = (tkD L n).t.size := rfl
      omega
    · rw [h]; exact Nat.zero_le _
    · rw [h]; exact Nat.zero_le _
  · have : lastT L = ⟨3, ⟨#[]⟩, e⟩ := by
      unfold lastT
      rcases tk_cases hL hV (L.length - 1) with ⟨h, -⟩ | ⟨-, h⟩ | ⟨h, -⟩
      · omega
      · exact h
      · omega
    rw [this]
    exact ⟨rfl, rfl⟩
theorem numL_of : NumL L := by
  intro n h1
  rcases tk_cases hL hV n with ⟨-, h, hk⟩ | ⟨-, h⟩ | ⟨-, h⟩
  · exact atoi_digits h.1 (num_digits h (hk.symm.trans h1))
  · rw [h] at h1; exact absurd h1 (fun q => by cases q)
  · rw [h] at h1; exact absurd h1 (fun q => by cases q)
theorem nm_of : ∀ n, (tkD L n).t = ⟨#[110, 97, 109, 101]⟩ → isN (tkD L n) = true := by
  intro n ht
  have h4 : tkd (bytes ⟨#[110, 97, 109, 101]⟩) = 0 := by decide +kernel
  have h5 : nmE ⟨#[110, 97, 109, 101]⟩ = 0 := by kernel_rfl
  rcases tk_cases hL hV n with ⟨-, h, hk⟩ | ⟨-, h⟩ | ⟨-, h⟩
  · unfold isN
    rw [hk, ht, h4, h5]; rfl
  · rw [h] at ht; exact absurd (congrArg ByteArray.size ht) (fun q => by cases q)
  · rw [h] at ht; exact absurd (congrArg ByteArray.size ht) (fun q => by cases q)
end
theorem scan_toks {s : ByteArray} (he : (scR s).2.2 = 0) : TkL (scR s).1 ∧ NumL (scR s).1 ∧ ∀ n, (tkD (scR s).1 n).t = ⟨#[110, 97, 109, 101]⟩ → isN (tkD (scR s).1 n) = true := by
  have hs := scan_long he
  obtain ⟨V, e, h1, h2, h3⟩ := scan_form hs he
  exact ⟨tkL_of h1 h2 (by omega), numL_of h1 h2, nm_of h1 h2⟩
def Rfn {α : Type} (r r' : Except (Int × Nat) α) : Prop := r ≠ .error (0, 0) → r' = r
theorem Rfn.same {α : Type} (r : Except (Int × Nat) α) : Rfn r r := fun _ => rfl
theorem Rfn.bind {α β : Type} {m m' : Except (Int × Nat) α} {k k' : α → Except (Int × Nat) β} (h : Rfn m m') (g : ∀ a, Rfn (k a) (k' a)) : Rfn (m >>= k) (m' >>= k') := by
  intro e
  cases m with
  | error p =>
    have hm : m' = .error p := h (fun q => e (by cases q; rfl))
    rw [hm]; rfl
  | ok a =>
    have hm : m' = .ok a := h (fun q => by cases q)
    rw [hm]
    exact g a e
theorem Rfn.ite {α : Type} {c : Prop} [Decidable c] {a a' b b' : Except (Int × Nat) α} (h : Rfn a a') (g : Rfn b b') : Rfn (if c then a else b) (if c then a' else b') := by
  by_cases q : c
  · rw [if_pos q, if_pos q]; exact h
  · rw [if_neg q, if_neg q]; exact g
set_option maxHeartbeats 1000000 in
theorem pRead_more : ∀ (f g : Nat) (w : Want) (d : Nat) (l : List Tk), f ≤ g → Rfn (pRead f w d l) (pRead g w d l)
  | 0, g, w, d, l, _ => fun e => absurd (by rw [pRead]) e
  | f + 1, 0, w, d, l, h => by omega
  | f + 1, g + 1, w, d, l, h => by
    have ih : ∀ w d l, Rfn (pRead f w d l) (pRead g w d l) := fun w d l => pRead_more f g w d l (by omega)
    cases w <;> rw [pRead, pRead] <;> (try dsimp only) <;>
      (repeat' (first | exact ih _ _ _ | refine Rfn.bind ?_ (fun _ => ?_) | refine Rfn.ite ?_ ?_ | exact Rfn.same _))
theorem read_stop {f : Nat} {w : Want} {d : Nat} {l : List Tk} {r : Red} (h : pRead f w d l = r) (h0 : r ≠ .error (0, 0)) : ∃ N, ∀ g, N ≤ g → pRead g w d l = r :=
  ⟨f, fun g hg => by rw [← h] at h0 ⊢; exact pRead_more f g w d l hg h0⟩
noncomputable def pLim (w : Want) (d : Nat) (l : List Tk) : Red := open Classical in if h : ∃ f, pRead f w d l ≠ .error (0, 0) then pRead h.choose w d l else .error (0, 0)
theorem pLim_eq {w : Want} {d : Nat} {l : List Tk} {r : Red} (h : ∃ N, ∀ f, N ≤ f → pRead f w d l = r) : pLim w d l = r := by
  obtain ⟨N, hN⟩ := h
  unfold pLim
  split
  · rename_i q
    have h1 := pRead_more q.choose (max N q.choose) w d l (by omega) q.choose_spec
    rw [hN _ (by omega)] at h1
    exact h1.symm
  · rename_i q
    have h1 := hN N (Nat.le_refl _)
    by_cases e : r = .error (0, 0)
    · exact e.symm
    · exact absurd ⟨N, by rw [h1]; exact e⟩ q
theorem pLim_of {f : Nat} {w : Want} {d : Nat} {l : List Tk} {r : Red} (h : pRead f w d l = r) (h0 : r ≠ .error (0, 0)) : pLim w d l = r := pLim_eq (read_stop h h0)
end Go.Proofs.YtdibcllakkjegaaGreatDoor
