import Derived.Test.YtdibcllakkjegaaGreatDoorCut32
import Derived.Test.YtdibcllakkjegaaGreatDoorHo2

set_option linter.unusedVariables false
/-
  The law ParserHolds.
-/
set_option linter.unusedSimpArgs false
set_option linter.unusedVariables false
namespace Go.Proofs.YtdibcllakkjegaaGreatDoor
open Go Go.Proofs Go.RowKit Go.Sort

theorem hold_cells {lo : Nat} {W : World} {b1 c1 : Nat} {b' c' n1 n2 : Int} {t1 t2 : ByteArray} {j1 j2 j3 j4 x : Syn} (h : SL lo W [.mk 2 b' t1 n1 [j1, j2, j3, j4, .mk 6 c' t2 n2 [x]]] b1 c1) : ∃ p p2 q q2, W.cell? ⟨b1, 4, none⟩ = some (.slice (some ⟨p, 0, none⟩) 5 p2) ∧ W.cell? ⟨p, 24, none⟩ = some (.slice (some ⟨q, 0, none⟩) 1 q2) ∧ SL lo W [x] q q2 := by
  obtain ⟨-, -, -, -, ⟨kv, e1, hk⟩, -⟩ := row_cons h.row
  obtain ⟨p, p2, rfl, hp⟩ := kids_cons hk
  obtain ⟨-, -, -, -, -, -, -, -, -, -, -, -, -, -, -, h1⟩ := row_head hp.row
  obtain ⟨-, -, -, -, -, -, -, -, -, -, -, -, -, -, -, h2⟩ := row_head h1
  obtain ⟨-, -, -, -, -, -, -, -, -, -, -, -, -, -, -, h3⟩ := row_head h2
  obtain ⟨-, -, -, -, -, -, -, -, -, -, -, -, -, -, -, h4⟩ := row_head h3
  obtain ⟨-, -, -, -, ⟨kv, e2, hk⟩, -⟩ := row_cons h4
  obtain ⟨q, q2, rfl, hq⟩ := kids_cons hk
  exact ⟨p, p2, q, q2, e1, e2, hq⟩
/-- The kids of a tree in memory. -/
theorem syn_kids {lo : Nat} {W : World} {k a n k4 a4 n4 : Int} {t t4 : ByteArray} {x : Syn} {r : List Syn} {o4 : Option Addr} {l4 c4 : Nat} (m : Nat) (hm : r.length + 1 = m) (h : synAt lo W (.mk k a t n (x :: r)) (.agg #[.int .i64 k4, .int .i64 a4, .string t4, .int .i64 n4, .slice o4 l4 c4])) :
    (k4 = k ∧ a4 = a ∧ t4 = t ∧ n4 = n) ∧ ∃ b, o4 = some ⟨b, 0, none⟩ ∧ l4 = m ∧ SL lo W (x :: r) b c4 := by
  obtain ⟨kv, ev, hk⟩ := synAt_mk.mp h
  simp only [Value.agg.injEq, Array.mk.injEq, List.cons.injEq, Value.int.injEq, Value.string.injEq, and_true, true_and] at ev
  obtain ⟨rfl, rfl, rfl, rfl, ev⟩ := ev
  rw [← ev] at hk
  obtain ⟨b, c, e, hs⟩ := kids_cons hk
  simp only [Value.slice.injEq] at e
  obtain ⟨rfl, rfl, rfl⟩ := e
  exact ⟨⟨rfl, rfl, rfl, rfl⟩, b, rfl, hm, hs⟩
theorem Ans.any {k : Nat} {s : ByteArray} {w : World} {f : Nat} {args : Array Value} (h : Calls Tryz.prog f args w (Ans k s w)) : Calls Tryz.prog f args w fun e w' => ∃ k4 a4 t4 n4 o4 l4 c4 a c, e = .returned (.tuple #[.agg #[.int .i64 k4, .int .i64 a4, .string t4, .int .i64 n4, .slice o4 l4 c4], .int .i64 a, .int .i64 (c : Nat)]) ∧ Below w.heap.size w w' := by
  refine h.mono ?_
  rintro e w' ⟨k4, a4, t4, n4, o4, l4, c4, a, c, rfl, hb, -⟩
  exact ⟨k4, a4, t4, n4, o4, l4, c4, a, c, rfl, hb⟩
set_option maxRecDepth 20000 in
set_option maxHeartbeats 4000000 in
theorem lhold_big_true (s : ByteArray) (g1 : decide ((1000 : Int) < (s.size : Int)) = true) (w : World) (h : Env w) :
    Calls Tryz.prog 11 #[.string s, .bool true] w fun e w' => e = .returned (.bool true) ∧ Below w.heap.size w w' := by
  have HE := Lib.hid h; clear h
  go_enter Tryz.func11, Tryz.ntmps11
  go_wp2_with (go_at_call 12; refine (HE.out.awake (Below.refl _ _)).mono ?_; rintro e w1 ⟨rfl, hb⟩; refine Hid.out ?_)
  have B1 := Lib.hid (Below.chain (Below.refl _ _) hb)
  clear hb
  refine Lib.hid ?_
  go_wp2
  go_ret
  exact ⟨rfl, B1.out⟩
set_option maxRecDepth 20000 in
set_option maxHeartbeats 4000000 in
theorem lhold_big_false (s : ByteArray) (g1 : decide ((1000 : Int) < (s.size : Int)) = true) (w : World) (h : Env w) :
    Calls Tryz.prog 11 #[.string s, .bool false] w fun e w' => e = .returned (.bool true) ∧ Below w.heap.size w w' := by
  have HE := Lib.hid h; clear h
  go_enter Tryz.func11, Tryz.ntmps11
  go_wp2_with (go_at_call 12; refine (HE.out.awake (Below.refl _ _)).mono ?_; rintro e w1 ⟨rfl, hb⟩; refine Hid.out ?_)
  have B1 := Lib.hid (Below.chain (Below.refl _ _) hb)
  clear hb
  refine Lib.hid ?_
  go_wp2
  go_ret
  exact ⟨rfl, B1.out⟩
set_option maxRecDepth 20000 in
set_option maxHeartbeats 4000000 in
theorem lhold_bad (s : ByteArray) (g1 : decide ((1000 : Int) < (s.size : Int)) = false) (a1 : Int) (c1 : Nat) (hp : pAns 3 s = .error (a1, c1)) (w : World) (h : Env w) :
    Calls Tryz.prog 11 #[.string s, .bool true] w fun e w' => e = .returned (.bool true) ∧ Below w.heap.size w w' := by
  have HE := Lib.hid h; have HP := Lib.hid hp; clear h hp
  go_enter Tryz.func11, Tryz.ntmps11
  go_wp2_with (go_at_call 26; refine (ent_code HP.out (HE.out.expr (Below.refl _ _) _)).mono ?_; rintro e w1 ⟨hc1, rfl, hb⟩; refine Hid.out ?_)
  have hA : Below w1.heap.size w1 (w1.alloc (Obj.cells #[.int .i64 0, .int .i64 0, .string ⟨#[]⟩, .int .i64 0, .slice none 0 0] 25)) := (Below.refl _ _).alloc (Nat.le_refl _) _
  have B1 := Lib.hid (Below.chain (Below.refl _ _) (Below.chain hb hA))
  have X1_1 := Lib.hid (Bx5.new w1 (.int .i64 0) (.int .i64 0) (.string ⟨#[]⟩) (.int .i64 0) (.slice none 0 0))
  clear hA hb
  obtain ⟨te1, te1'⟩ := err_ne hc1
  refine Lib.hid ?_
  go_wp2_with (go_at_call 12; refine (HE.out.awake B1.out).mono ?_; rintro e w2 ⟨rfl, hb⟩; refine Hid.out ?_)
  have B2 := Lib.hid (Below.chain B1.out hb)
  clear hb
  refine Lib.hid ?_
  go_wp2
  go_ret
  exact ⟨rfl, B2.out⟩
set_option maxRecDepth 20000 in
set_option maxHeartbeats 4000000 in
theorem lhold_c1 (s : ByteArray) (g1 : decide ((1000 : Int) < (s.size : Int)) = false) (ac : Int) (cc : Nat) (hc : pAns 2 s = .error (ac, cc)) (w : World) (h : Env w) :
    Calls Tryz.prog 11 #[.string s, .bool false] w fun e w' => e = .returned (.bool true) ∧ Below w.heap.size w w' := by
  have hz : s.size ≤ 1000 := by
    rw [decide_eq_false_iff_not] at g1
    omega
  have u0 : ¬ 9223372036854775807 < 18 + s.size := by omega
  have u1 : ¬ 9223372036854775807 < 18 + s.size + 4 := by omega
  have u2 : ¬ 9223372036854775807 < ((⟨#[112, 114, 111, 99, 32, 112, 40, 41, 32, 123, 32, 97, 115, 115, 101, 114, 116, 32]⟩ : ByteArray) ++ s).size + 4 := by simp only [ByteArray.size_append, show (⟨#[112, 114, 111, 99, 32, 112, 40, 41, 32, 123, 32, 97, 115, 115, 101, 114, 116, 32]⟩ : ByteArray).size = 18 from rfl, show (⟨#[112, 114, 111, 99, 32, 112, 40, 41, 32, 123, 32, 120, 32, 58, 61, 32, 45, 32]⟩ : ByteArray).size = 18 from rfl, show (⟨#[40]⟩ : ByteArray).size = 1 from rfl, show (⟨#[10, 41]⟩ : ByteArray).size = 2 from rfl, show (⟨#[10, 59, 32, 125]⟩ : ByteArray).size = 4 from rfl]; omega
  have HE := Lib.hid h; have Hhc := Lib.hid hc; clear h hz hc
  go_enter Tryz.func11, Tryz.ntmps11
  go_wp2_with (go_at_call 26; refine (Ans.any (HE.out.expr (Below.refl _ _) _)).mono ?_; rintro e w1 ⟨k1, a1, t1, n1, o1, l1, c1, at1, er1, rfl, hb⟩; refine Hid.out ?_)
  have hA : Below w1.heap.size w1 (w1.alloc (Obj.cells #[.int .i64 k1, .int .i64 a1, .string t1, .int .i64 n1, .slice o1 l1 c1] 25)) := (Below.refl _ _).alloc (Nat.le_refl _) _
  have B1 := Lib.hid (Below.chain (Below.refl _ _) (Below.chain hb hA))
  clear hA hb
  refine Lib.hid ?_
  go_wp2_with (go_at_call 16; refine (ent_code (k := 2) Hhc.out (HE.out.part B1.out _ 2 (by decide))).mono ?_; rintro e w2 ⟨hc2, rfl, hb⟩; refine Hid.out ?_)
  have hA : Below w2.heap.size w2 (w2.alloc (Obj.cells #[.int .i64 0, .int .i64 0, .string ⟨#[]⟩, .int .i64 0, .slice none 0 0] 25)) := (Below.refl _ _).alloc (Nat.le_refl _) _
  have B2 := Lib.hid (Below.chain B1.out (Below.chain hb hA))
  have X2_2 := Lib.hid (Bx5.new w2 (.int .i64 0) (.int .i64 0) (.string ⟨#[]⟩) (.int .i64 0) (.slice none 0 0))
  clear hA hb
  obtain ⟨te2, te2'⟩ := err_ne hc2
  refine Lib.hid ?_
  go_wp2_with (go_at_call 13; refine (Ans.any (HE.out.parse B2.out _)).mono ?_; rintro e w3 ⟨k3, a3, t3, n3, o3, l3, c3, at3, er3, rfl, hb⟩; refine Hid.out ?_)
  have hA : Below w3.heap.size w3 (w3.alloc (Obj.cells #[.int .i64 k3, .int .i64 a3, .string t3, .int .i64 n3, .slice o3 l3 c3] 25)) := (Below.refl _ _).alloc (Nat.le_refl _) _
  have B3 := Lib.hid (Below.chain B2.out (Below.chain hb hA))
  have X2_3 := Lib.hid (X2_2.out.below (Below.chain hb hA))
  clear X2_2
  clear hA hb
  refine Lib.hid ?_
  go_wp2_with (go_at_call 12; refine (HE.out.awake B3.out).mono ?_; rintro e w4 ⟨rfl, hb⟩; refine Hid.out ?_)
  have B4 := Lib.hid (Below.chain B3.out hb)
  clear hb
  refine Lib.hid ?_
  go_wp2
  go_ret
  exact ⟨rfl, B4.out⟩
set_option maxRecDepth 20000 in
set_option maxHeartbeats 4000000 in
theorem lhold_c2 (s : ByteArray) (g1 : decide ((1000 : Int) < (s.size : Int)) = false) (c : Syn) (hc : pAns 2 s = .ok c) (ad : Int) (hd : pAns 0 ((⟨#[112, 114, 111, 99, 32, 112, 40, 41, 32, 123, 32, 97, 115, 115, 101, 114, 116, 32]⟩ : ByteArray) ++ s ++ (⟨#[10, 59, 32, 125]⟩ : ByteArray)) = .error (ad, 12)) (w : World) (h : Env w) :
    Calls Tryz.prog 11 #[.string s, .bool false] w fun e w' => e = .returned (.bool true) ∧ Below w.heap.size w w' := by
  have hz : s.size ≤ 1000 := by
    rw [decide_eq_false_iff_not] at g1
    omega
  have u0 : ¬ 9223372036854775807 < 18 + s.size := by omega
  have u1 : ¬ 9223372036854775807 < 18 + s.size + 4 := by omega
  have u2 : ¬ 9223372036854775807 < ((⟨#[112, 114, 111, 99, 32, 112, 40, 41, 32, 123, 32, 97, 115, 115, 101, 114, 116, 32]⟩ : ByteArray) ++ s).size + 4 := by simp only [ByteArray.size_append, show (⟨#[112, 114, 111, 99, 32, 112, 40, 41, 32, 123, 32, 97, 115, 115, 101, 114, 116, 32]⟩ : ByteArray).size = 18 from rfl, show (⟨#[112, 114, 111, 99, 32, 112, 40, 41, 32, 123, 32, 120, 32, 58, 61, 32, 45, 32]⟩ : ByteArray).size = 18 from rfl, show (⟨#[40]⟩ : ByteArray).size = 1 from rfl, show (⟨#[10, 41]⟩ : ByteArray).size = 2 from rfl, show (⟨#[10, 59, 32, 125]⟩ : ByteArray).size = 4 from rfl]; omega
  have HE := Lib.hid h; have Hhc := Lib.hid hc; have Hhd := Lib.hid hd; clear h hz hc hd
  go_enter Tryz.func11, Tryz.ntmps11
  go_wp2_with (go_at_call 26; refine (Ans.any (HE.out.expr (Below.refl _ _) _)).mono ?_; rintro e w1 ⟨k1, a1, t1, n1, o1, l1, c1, at1, er1, rfl, hb⟩; refine Hid.out ?_)
  have hA : Below w1.heap.size w1 (w1.alloc (Obj.cells #[.int .i64 k1, .int .i64 a1, .string t1, .int .i64 n1, .slice o1 l1 c1] 25)) := (Below.refl _ _).alloc (Nat.le_refl _) _
  have B1 := Lib.hid (Below.chain (Below.refl _ _) (Below.chain hb hA))
  clear hA hb
  refine Lib.hid ?_
  go_wp2_with (go_at_call 16; refine (ent_ok (k := 2) Hhc.out (HE.out.part B1.out _ 2 (by decide))).mono ?_; rintro e w2 ⟨k2, a2, t2, n2, o2, l2, c2, q2, hq2, rfl, hb, hx⟩; refine Hid.out ?_)
  have hA : Below w2.heap.size w2 (w2.alloc (Obj.cells #[.int .i64 k2, .int .i64 a2, .string t2, .int .i64 n2, .slice o2 l2 c2] 25)) := (Below.refl _ _).alloc (Nat.le_refl _) _
  have B2 := Lib.hid (Below.chain B1.out (Below.chain hb hA))
  have X2_2 := Lib.hid (Bx5.new w2 (.int .i64 k2) (.int .i64 a2) (.string t2) (.int .i64 n2) (.slice o2 l2 c2))
  have S2_2 := Lib.hid (hx.below hA)
  clear hA hb hx
  refine Lib.hid ?_
  go_wp2_with (go_at_call 13; refine (ent_bad Hhd.out (HE.out.parse B2.out _)).mono ?_; rintro e w3 ⟨rfl, hb⟩; refine Hid.out ?_)
  have hA : Below w3.heap.size w3 (w3.alloc (Obj.cells #[.int .i64 0, .int .i64 0, .string ⟨#[]⟩, .int .i64 0, .slice none 0 0] 25)) := (Below.refl _ _).alloc (Nat.le_refl _) _
  have B3 := Lib.hid (Below.chain B2.out (Below.chain hb hA))
  have X2_3 := Lib.hid (X2_2.out.below (Below.chain hb hA))
  clear X2_2
  have S2_3 := Lib.hid (S2_2.out.below (Below.chain hb hA))
  clear S2_2
  have X3_3 := Lib.hid (Bx5.new w3 (.int .i64 0) (.int .i64 0) (.string ⟨#[]⟩) (.int .i64 0) (.slice none 0 0))
  clear hA hb
  refine Lib.hid ?_
  go_wp2_with (go_at_call 12; refine (HE.out.awake B3.out).mono ?_; rintro e w4 ⟨rfl, hb⟩; refine Hid.out ?_)
  have B4 := Lib.hid (Below.chain B3.out hb)
  clear hb
  refine Lib.hid ?_
  go_wp2
  go_ret
  exact ⟨rfl, B4.out⟩
set_option maxRecDepth 20000 in
set_option maxHeartbeats 4000000 in
theorem lhold_c3 (s : ByteArray) (g1 : decide ((1000 : Int) < (s.size : Int)) = false) (a' b' c' d' : Int) (j1 j2 j3 j4 z : Syn) (ta tb : ByteArray) (c : Syn) (hc : pAns 2 s = .ok c) (hd : pAns 0 ((⟨#[112, 114, 111, 99, 32, 112, 40, 41, 32, 123, 32, 97, 115, 115, 101, 114, 116, 32]⟩ : ByteArray) ++ s ++ (⟨#[10, 59, 32, 125]⟩ : ByteArray)) = .ok (.mk 0 a' ⟨#[]⟩ 0 [.mk 2 b' ta 0 [j1, j2, j3, j4, .mk 6 c' tb 0 [(.mk 13 d' ⟨#[]⟩ 0 [z])]]])) (he : bareS z = bareS c) (w : World) (h : Env w) :
    Calls Tryz.prog 11 #[.string s, .bool false] w fun e w' => e = .returned (.bool true) ∧ Below w.heap.size w w' := by
  have hz : s.size ≤ 1000 := by
    rw [decide_eq_false_iff_not] at g1
    omega
  have u0 : ¬ 9223372036854775807 < 18 + s.size := by omega
  have u1 : ¬ 9223372036854775807 < 18 + s.size + 4 := by omega
  have u2 : ¬ 9223372036854775807 < ((⟨#[112, 114, 111, 99, 32, 112, 40, 41, 32, 123, 32, 97, 115, 115, 101, 114, 116, 32]⟩ : ByteArray) ++ s).size + 4 := by simp only [ByteArray.size_append, show (⟨#[112, 114, 111, 99, 32, 112, 40, 41, 32, 123, 32, 97, 115, 115, 101, 114, 116, 32]⟩ : ByteArray).size = 18 from rfl, show (⟨#[112, 114, 111, 99, 32, 112, 40, 41, 32, 123, 32, 120, 32, 58, 61, 32, 45, 32]⟩ : ByteArray).size = 18 from rfl, show (⟨#[40]⟩ : ByteArray).size = 1 from rfl, show (⟨#[10, 41]⟩ : ByteArray).size = 2 from rfl, show (⟨#[10, 59, 32, 125]⟩ : ByteArray).size = 4 from rfl]; omega
  have HE := Lib.hid h; have Hhc := Lib.hid hc; have Hhd := Lib.hid hd; have Hhe := Lib.hid he; clear h hz hc hd he
  go_enter Tryz.func11, Tryz.ntmps11
  go_wp2_with (go_at_call 26; refine (Ans.any (HE.out.expr (Below.refl _ _) _)).mono ?_; rintro e w1 ⟨k1, a1, t1, n1, o1, l1, c1, at1, er1, rfl, hb⟩; refine Hid.out ?_)
  have hA : Below w1.heap.size w1 (w1.alloc (Obj.cells #[.int .i64 k1, .int .i64 a1, .string t1, .int .i64 n1, .slice o1 l1 c1] 25)) := (Below.refl _ _).alloc (Nat.le_refl _) _
  have B1 := Lib.hid (Below.chain (Below.refl _ _) (Below.chain hb hA))
  clear hA hb
  refine Lib.hid ?_
  go_wp2_with (go_at_call 16; refine (ent_ok (k := 2) Hhc.out (HE.out.part B1.out _ 2 (by decide))).mono ?_; rintro e w2 ⟨k2, a2, t2, n2, o2, l2, c2, q2, hq2, rfl, hb, hx⟩; refine Hid.out ?_)
  have hA : Below w2.heap.size w2 (w2.alloc (Obj.cells #[.int .i64 k2, .int .i64 a2, .string t2, .int .i64 n2, .slice o2 l2 c2] 25)) := (Below.refl _ _).alloc (Nat.le_refl _) _
  have B2 := Lib.hid (Below.chain B1.out (Below.chain hb hA))
  have X2_2 := Lib.hid (Bx5.new w2 (.int .i64 k2) (.int .i64 a2) (.string t2) (.int .i64 n2) (.slice o2 l2 c2))
  have S2_2 := Lib.hid (hx.below hA)
  clear hA hb hx
  refine Lib.hid ?_
  go_wp2_with (go_at_call 13; refine (ent_ok Hhd.out (HE.out.parse B2.out _)).mono ?_; rintro e w3 ⟨k3, a3, t3, n3, o3, l3, c3, q3, hq3, rfl, hb, hx⟩; refine Hid.out ?_)
  have hA : Below w3.heap.size w3 (w3.alloc (Obj.cells #[.int .i64 k3, .int .i64 a3, .string t3, .int .i64 n3, .slice o3 l3 c3] 25)) := (Below.refl _ _).alloc (Nat.le_refl _) _
  have B3 := Lib.hid (Below.chain B2.out (Below.chain hb hA))
  have X2_3 := Lib.hid (X2_2.out.below (Below.chain hb hA))
  clear X2_2
  have S2_3 := Lib.hid (S2_2.out.below (Below.chain hb hA))
  clear S2_2
  have X3_3 := Lib.hid (Bx5.new w3 (.int .i64 k3) (.int .i64 a3) (.string t3) (.int .i64 n3) (.slice o3 l3 c3))
  have S3_3 := Lib.hid (hx.below hA)
  clear hA hb hx
  refine Lib.hid ?_
  obtain ⟨⟨rfl, rfl, rfl, rfl⟩, p1, rfl, rfl, hs1⟩ := syn_kids 1 rfl S3_3.out
  clear hq3
  obtain ⟨p2, q2, p3, q3', e1, e2, hs3⟩ := hold_cells hs1
  obtain ⟨ks, asx, ts, ns, osx, ls, cs, qs, hqs, f0, f1, f2, f3, f4, hX, -⟩ := row_head hs3.row
  have r0 : (w3.alloc (Obj.cells #[.int .i64 0, .int .i64 a3, .string ⟨#[]⟩, .int .i64 0, .slice (some ⟨p1, 0, none⟩) 1 c3] 25)).cell? ⟨p3, 0, none⟩ = _ := f0
  have r1 : (w3.alloc (Obj.cells #[.int .i64 0, .int .i64 a3, .string ⟨#[]⟩, .int .i64 0, .slice (some ⟨p1, 0, none⟩) 1 c3] 25)).cell? ⟨p3, 1, none⟩ = _ := f1
  have r2 : (w3.alloc (Obj.cells #[.int .i64 0, .int .i64 a3, .string ⟨#[]⟩, .int .i64 0, .slice (some ⟨p1, 0, none⟩) 1 c3] 25)).cell? ⟨p3, 2, none⟩ = _ := f2
  have r3 : (w3.alloc (Obj.cells #[.int .i64 0, .int .i64 a3, .string ⟨#[]⟩, .int .i64 0, .slice (some ⟨p1, 0, none⟩) 1 c3] 25)).cell? ⟨p3, 3, none⟩ = _ := f3
  have r4 : (w3.alloc (Obj.cells #[.int .i64 0, .int .i64 a3, .string ⟨#[]⟩, .int .i64 0, .slice (some ⟨p1, 0, none⟩) 1 c3] 25)).cell? ⟨p3, 4, none⟩ = _ := f4
  obtain ⟨⟨rfl, rfl, rfl, rfl⟩, p4, rfl, rfl, hs4⟩ := syn_kids 1 rfl hX
  clear f0 f1 f2 f3 f4 hX hqs
  obtain ⟨v0, v1, v2, v3, v4, -, -⟩ := X3_3.out
  have g2 : (0 : Int) < 1 := by decide
  obtain ⟨kz, az, tz, nz, oz, lz, cz, qz, -, y0, y1, y2, y3, y4, hZ, -⟩ := row_head hs4.row
  have hAN : Below (w3.alloc (Obj.cells #[.int .i64 0, .int .i64 a3, .string ⟨#[]⟩, .int .i64 0, .slice (some ⟨p1, 0, none⟩) 1 c3] 25)).heap.size (w3.alloc (Obj.cells #[.int .i64 0, .int .i64 a3, .string ⟨#[]⟩, .int .i64 0, .slice (some ⟨p1, 0, none⟩) 1 c3] 25)) ((w3.alloc (Obj.cells #[.int .i64 0, .int .i64 a3, .string ⟨#[]⟩, .int .i64 0, .slice (some ⟨p1, 0, none⟩) 1 c3] 25)).alloc (Obj.cells #[.int .i64 13, .int .i64 asx, .string ⟨#[]⟩, .int .i64 0, .slice (some ⟨p4, 0, none⟩) 1 cs] 25)) := (Below.refl _ _).alloc (Nat.le_refl _) _
  have hsz : (w3.alloc (Obj.cells #[.int .i64 0, .int .i64 a3, .string ⟨#[]⟩, .int .i64 0, .slice (some ⟨p1, 0, none⟩) 1 c3] 25)).heap.size = w3.heap.size + 1 := by simp
  have xn := Bx5.new (w3.alloc (Obj.cells #[.int .i64 0, .int .i64 a3, .string ⟨#[]⟩, .int .i64 0, .slice (some ⟨p1, 0, none⟩) 1 c3] 25)) (.int .i64 13) (.int .i64 asx) (.string ⟨#[]⟩) (.int .i64 0) (.slice (some ⟨p4, 0, none⟩) 1 cs)
  rw [hsz] at xn
  have XN := Lib.hid xn
  clear hsz xn
  have BN := Lib.hid (Below.chain B3.out hAN)
  have X2N := Lib.hid (X2_3.out.below hAN)
  have S2N := S2_3.out.below hAN
  have hZN := hZ.below hAN
  have lt5 : p4 < (w3.alloc (Obj.cells #[.int .i64 0, .int .i64 a3, .string ⟨#[]⟩, .int .i64 0, .slice (some ⟨p1, 0, none⟩) 1 c3] 25)).heap.size := hs4.lt
  have w0 : ((w3.alloc (Obj.cells #[.int .i64 0, .int .i64 a3, .string ⟨#[]⟩, .int .i64 0, .slice (some ⟨p1, 0, none⟩) 1 c3] 25)).alloc (Obj.cells #[.int .i64 13, .int .i64 asx, .string ⟨#[]⟩, .int .i64 0, .slice (some ⟨p4, 0, none⟩) 1 cs] 25)).cell? ⟨p4, 0, none⟩ = _ := (hAN.cell (p := ⟨p4, 0, none⟩) lt5).trans y0
  have w1' : ((w3.alloc (Obj.cells #[.int .i64 0, .int .i64 a3, .string ⟨#[]⟩, .int .i64 0, .slice (some ⟨p1, 0, none⟩) 1 c3] 25)).alloc (Obj.cells #[.int .i64 13, .int .i64 asx, .string ⟨#[]⟩, .int .i64 0, .slice (some ⟨p4, 0, none⟩) 1 cs] 25)).cell? ⟨p4, 1, none⟩ = _ := (hAN.cell (p := ⟨p4, 1, none⟩) lt5).trans y1
  have w2' : ((w3.alloc (Obj.cells #[.int .i64 0, .int .i64 a3, .string ⟨#[]⟩, .int .i64 0, .slice (some ⟨p1, 0, none⟩) 1 c3] 25)).alloc (Obj.cells #[.int .i64 13, .int .i64 asx, .string ⟨#[]⟩, .int .i64 0, .slice (some ⟨p4, 0, none⟩) 1 cs] 25)).cell? ⟨p4, 2, none⟩ = _ := (hAN.cell (p := ⟨p4, 2, none⟩) lt5).trans y2
  have w3' : ((w3.alloc (Obj.cells #[.int .i64 0, .int .i64 a3, .string ⟨#[]⟩, .int .i64 0, .slice (some ⟨p1, 0, none⟩) 1 c3] 25)).alloc (Obj.cells #[.int .i64 13, .int .i64 asx, .string ⟨#[]⟩, .int .i64 0, .slice (some ⟨p4, 0, none⟩) 1 cs] 25)).cell? ⟨p4, 3, none⟩ = _ := (hAN.cell (p := ⟨p4, 3, none⟩) lt5).trans y3
  have w4' : ((w3.alloc (Obj.cells #[.int .i64 0, .int .i64 a3, .string ⟨#[]⟩, .int .i64 0, .slice (some ⟨p1, 0, none⟩) 1 c3] 25)).alloc (Obj.cells #[.int .i64 13, .int .i64 asx, .string ⟨#[]⟩, .int .i64 0, .slice (some ⟨p4, 0, none⟩) 1 cs] 25)).cell? ⟨p4, 4, none⟩ = _ := (hAN.cell (p := ⟨p4, 4, none⟩) lt5).trans y4
  have K1 := Lib.hid (fun d os => same_re hZN S2N (eq_of_bare Hhe.out) d os)
  have K2 := Lib.hid (fun d os => awake_re BN.out HE.out.tab HE.out.ev d os)
  have HW := Lib.hid (And.intro w0 (And.intro w1' (And.intro w2' (And.intro w3' w4'))))
  clear hAN S2N hZN hZ w0 w1' w2' w3' w4' lt5 y0 y1 y2 y3 y4 hs4 hs3 hs1 u0 u1 u2
  go_wp2_with fail
  obtain ⟨w0, w1', w2', w3', w4'⟩ := HW.out
  have gXN0 := fun d os => cell_regrown XN.out.c0 d os
  have gXN1 := fun d os => cell_regrown XN.out.c1 d os
  have gXN2 := fun d os => cell_regrown XN.out.c2 d os
  have gXN3 := fun d os => cell_regrown XN.out.c3 d os
  have gXN4 := fun d os => cell_regrown XN.out.c4 d os
  have gX2N0 := fun d os => cell_regrown X2N.out.c0 d os
  have gX2N1 := fun d os => cell_regrown X2N.out.c1 d os
  have gX2N2 := fun d os => cell_regrown X2N.out.c2 d os
  have gX2N3 := fun d os => cell_regrown X2N.out.c3 d os
  have gX2N4 := fun d os => cell_regrown X2N.out.c4 d os
  have gr0 := fun d os => cell_regrown w0 d os
  have gr1 := fun d os => cell_regrown w1' d os
  have gr2 := fun d os => cell_regrown w2' d os
  have gr3 := fun d os => cell_regrown w3' d os
  have gr4 := fun d os => cell_regrown w4' d os
  refine wp_region_quiet_below (by kernel_rfl) (by kernel_rfl) ?_
  repeat (quiet_step (first | exact K1.out _ _ | exact K2.out _ _))
  refine wpQuiet_nil ?_
  intro _ hw'
  obtain ⟨⟨dq, osq⟩, hw''⟩ := hw'
  subst hw''
  go_wp2
  go_ret
  exact ⟨rfl, Below.chain BN.out (below_regrown _ dq osq)⟩
set_option maxRecDepth 20000 in
set_option maxHeartbeats 4000000 in
theorem lhold_x1 (s : ByteArray) (g1 : decide ((1000 : Int) < (s.size : Int)) = false) (x : Syn) (hp : pAns 3 s = .ok x) (ac : Int) (cc : Nat) (hc : pAns 3 ((⟨#[40]⟩ : ByteArray) ++ s ++ (⟨#[10, 41]⟩ : ByteArray)) = .error (ac, cc)) (w : World) (h : Env w) :
    Calls Tryz.prog 11 #[.string s, .bool true] w fun e w' => e = .returned (.bool true) ∧ Below w.heap.size w w' := by
  have hz : s.size ≤ 1000 := by
    rw [decide_eq_false_iff_not] at g1
    omega
  have u0 : ¬ 9223372036854775807 < 1 + s.size := by omega
  have u1 : ¬ 9223372036854775807 < 1 + s.size + 2 := by omega
  have u2 : ¬ 9223372036854775807 < ((⟨#[40]⟩ : ByteArray) ++ s).size + 2 := by simp only [ByteArray.size_append, show (⟨#[112, 114, 111, 99, 32, 112, 40, 41, 32, 123, 32, 97, 115, 115, 101, 114, 116, 32]⟩ : ByteArray).size = 18 from rfl, show (⟨#[112, 114, 111, 99, 32, 112, 40, 41, 32, 123, 32, 120, 32, 58, 61, 32, 45, 32]⟩ : ByteArray).size = 18 from rfl, show (⟨#[40]⟩ : ByteArray).size = 1 from rfl, show (⟨#[10, 41]⟩ : ByteArray).size = 2 from rfl, show (⟨#[10, 59, 32, 125]⟩ : ByteArray).size = 4 from rfl]; omega
  have u3 : ¬ 9223372036854775807 < 18 + (1 + s.size + 2) := by omega
  have u4 : ¬ 9223372036854775807 < 18 + (1 + s.size + 2) + 4 := by omega
  have u5 : ¬ 9223372036854775807 < 18 + (((⟨#[40]⟩ : ByteArray) ++ s ++ (⟨#[10, 41]⟩ : ByteArray))).size := by simp only [ByteArray.size_append, show (⟨#[112, 114, 111, 99, 32, 112, 40, 41, 32, 123, 32, 97, 115, 115, 101, 114, 116, 32]⟩ : ByteArray).size = 18 from rfl, show (⟨#[112, 114, 111, 99, 32, 112, 40, 41, 32, 123, 32, 120, 32, 58, 61, 32, 45, 32]⟩ : ByteArray).size = 18 from rfl, show (⟨#[40]⟩ : ByteArray).size = 1 from rfl, show (⟨#[10, 41]⟩ : ByteArray).size = 2 from rfl, show (⟨#[10, 59, 32, 125]⟩ : ByteArray).size = 4 from rfl]; omega
  have u6 : ¬ 9223372036854775807 < ((⟨#[112, 114, 111, 99, 32, 112, 40, 41, 32, 123, 32, 120, 32, 58, 61, 32, 45, 32]⟩ : ByteArray) ++ ((⟨#[40]⟩ : ByteArray) ++ s ++ (⟨#[10, 41]⟩ : ByteArray))).size + 4 := by simp only [ByteArray.size_append, show (⟨#[112, 114, 111, 99, 32, 112, 40, 41, 32, 123, 32, 97, 115, 115, 101, 114, 116, 32]⟩ : ByteArray).size = 18 from rfl, show (⟨#[112, 114, 111, 99, 32, 112, 40, 41, 32, 123, 32, 120, 32, 58, 61, 32, 45, 32]⟩ : ByteArray).size = 18 from rfl, show (⟨#[40]⟩ : ByteArray).size = 1 from rfl, show (⟨#[10, 41]⟩ : ByteArray).size = 2 from rfl, show (⟨#[10, 59, 32, 125]⟩ : ByteArray).size = 4 from rfl]; omega
  have HE := Lib.hid h; have Hhp := Lib.hid hp; have Hhc := Lib.hid hc; clear h hz hp hc
  go_enter Tryz.func11, Tryz.ntmps11
  go_wp2_with (go_at_call 26; refine (ent_ok Hhp.out (HE.out.expr (Below.refl _ _) _)).mono ?_; rintro e w1 ⟨k1, a1, t1, n1, o1, l1, c1, q1, hq1, rfl, hb, hx⟩; refine Hid.out ?_)
  have hA : Below w1.heap.size w1 (w1.alloc (Obj.cells #[.int .i64 k1, .int .i64 a1, .string t1, .int .i64 n1, .slice o1 l1 c1] 25)) := (Below.refl _ _).alloc (Nat.le_refl _) _
  have B1 := Lib.hid (Below.chain (Below.refl _ _) (Below.chain hb hA))
  have X1_1 := Lib.hid (Bx5.new w1 (.int .i64 k1) (.int .i64 a1) (.string t1) (.int .i64 n1) (.slice o1 l1 c1))
  have S1_1 := Lib.hid (hx.below hA)
  clear hA hb hx
  refine Lib.hid ?_
  go_wp2_with (go_at_call 16; refine (ent_code (k := 3) Hhc.out (HE.out.part B1.out _ 3 (by decide))).mono ?_; rintro e w2 ⟨hc2, rfl, hb⟩; refine Hid.out ?_)
  have hA : Below w2.heap.size w2 (w2.alloc (Obj.cells #[.int .i64 0, .int .i64 0, .string ⟨#[]⟩, .int .i64 0, .slice none 0 0] 25)) := (Below.refl _ _).alloc (Nat.le_refl _) _
  have B2 := Lib.hid (Below.chain B1.out (Below.chain hb hA))
  have X1_2 := Lib.hid (X1_1.out.below (Below.chain hb hA))
  clear X1_1
  have S1_2 := Lib.hid (S1_1.out.below (Below.chain hb hA))
  clear S1_1
  have X2_2 := Lib.hid (Bx5.new w2 (.int .i64 0) (.int .i64 0) (.string ⟨#[]⟩) (.int .i64 0) (.slice none 0 0))
  clear hA hb
  obtain ⟨te2, te2'⟩ := err_ne hc2
  refine Lib.hid ?_
  go_wp2_with (go_at_call 13; refine (Ans.any (HE.out.parse B2.out _)).mono ?_; rintro e w3 ⟨k3, a3, t3, n3, o3, l3, c3, at3, er3, rfl, hb⟩; refine Hid.out ?_)
  have hA : Below w3.heap.size w3 (w3.alloc (Obj.cells #[.int .i64 k3, .int .i64 a3, .string t3, .int .i64 n3, .slice o3 l3 c3] 25)) := (Below.refl _ _).alloc (Nat.le_refl _) _
  have B3 := Lib.hid (Below.chain B2.out (Below.chain hb hA))
  have X1_3 := Lib.hid (X1_2.out.below (Below.chain hb hA))
  clear X1_2
  have S1_3 := Lib.hid (S1_2.out.below (Below.chain hb hA))
  clear S1_2
  have X2_3 := Lib.hid (X2_2.out.below (Below.chain hb hA))
  clear X2_2
  clear hA hb
  refine Lib.hid ?_
  go_wp2_with (go_at_call 12; refine (HE.out.awake B3.out).mono ?_; rintro e w4 ⟨rfl, hb⟩; refine Hid.out ?_)
  have B4 := Lib.hid (Below.chain B3.out hb)
  clear hb
  refine Lib.hid ?_
  go_wp2
  go_ret
  exact ⟨rfl, B4.out⟩
set_option maxRecDepth 20000 in
set_option maxHeartbeats 4000000 in
theorem lhold_x2 (s : ByteArray) (g1 : decide ((1000 : Int) < (s.size : Int)) = false) (x : Syn) (hp : pAns 3 s = .ok x) (c : Syn) (hc : pAns 3 ((⟨#[40]⟩ : ByteArray) ++ s ++ (⟨#[10, 41]⟩ : ByteArray)) = .ok c) (ad : Int) (hd : pAns 0 ((⟨#[112, 114, 111, 99, 32, 112, 40, 41, 32, 123, 32, 120, 32, 58, 61, 32, 45, 32]⟩ : ByteArray) ++ ((⟨#[40]⟩ : ByteArray) ++ s ++ (⟨#[10, 41]⟩ : ByteArray)) ++ (⟨#[10, 59, 32, 125]⟩ : ByteArray)) = .error (ad, 12)) (w : World) (h : Env w) :
    Calls Tryz.prog 11 #[.string s, .bool true] w fun e w' => e = .returned (.bool true) ∧ Below w.heap.size w w' := by
  have hz : s.size ≤ 1000 := by
    rw [decide_eq_false_iff_not] at g1
    omega
  have u0 : ¬ 9223372036854775807 < 1 + s.size := by omega
  have u1 : ¬ 9223372036854775807 < 1 + s.size + 2 := by omega
  have u2 : ¬ 9223372036854775807 < ((⟨#[40]⟩ : ByteArray) ++ s).size + 2 := by simp only [ByteArray.size_append, show (⟨#[112, 114, 111, 99, 32, 112, 40, 41, 32, 123, 32, 97, 115, 115, 101, 114, 116, 32]⟩ : ByteArray).size = 18 from rfl, show (⟨#[112, 114, 111, 99, 32, 112, 40, 41, 32, 123, 32, 120, 32, 58, 61, 32, 45, 32]⟩ : ByteArray).size = 18 from rfl, show (⟨#[40]⟩ : ByteArray).size = 1 from rfl, show (⟨#[10, 41]⟩ : ByteArray).size = 2 from rfl, show (⟨#[10, 59, 32, 125]⟩ : ByteArray).size = 4 from rfl]; omega
  have u3 : ¬ 9223372036854775807 < 18 + (1 + s.size + 2) := by omega
  have u4 : ¬ 9223372036854775807 < 18 + (1 + s.size + 2) + 4 := by omega
  have u5 : ¬ 9223372036854775807 < 18 + (((⟨#[40]⟩ : ByteArray) ++ s ++ (⟨#[10, 41]⟩ : ByteArray))).size := by simp only [ByteArray.size_append, show (⟨#[112, 114, 111, 99, 32, 112, 40, 41, 32, 123, 32, 97, 115, 115, 101, 114, 116, 32]⟩ : ByteArray).size = 18 from rfl, show (⟨#[112, 114, 111, 99, 32, 112, 40, 41, 32, 123, 32, 120, 32, 58, 61, 32, 45, 32]⟩ : ByteArray).size = 18 from rfl, show (⟨#[40]⟩ : ByteArray).size = 1 from rfl, show (⟨#[10, 41]⟩ : ByteArray).size = 2 from rfl, show (⟨#[10, 59, 32, 125]⟩ : ByteArray).size = 4 from rfl]; omega
  have u6 : ¬ 9223372036854775807 < ((⟨#[112, 114, 111, 99, 32, 112, 40, 41, 32, 123, 32, 120, 32, 58, 61, 32, 45, 32]⟩ : ByteArray) ++ ((⟨#[40]⟩ : ByteArray) ++ s ++ (⟨#[10, 41]⟩ : ByteArray))).size + 4 := by simp only [ByteArray.size_append, show (⟨#[112, 114, 111, 99, 32, 112, 40, 41, 32, 123, 32, 97, 115, 115, 101, 114, 116, 32]⟩ : ByteArray).size = 18 from rfl, show (⟨#[112, 114, 111, 99, 32, 112, 40, 41, 32, 123, 32, 120, 32, 58, 61, 32, 45, 32]⟩ : ByteArray).size = 18 from rfl, show (⟨#[40]⟩ : ByteArray).size = 1 from rfl, show (⟨#[10, 41]⟩ : ByteArray).size = 2 from rfl, show (⟨#[10, 59, 32, 125]⟩ : ByteArray).size = 4 from rfl]; omega
  have HE := Lib.hid h; have Hhp := Lib.hid hp; have Hhc := Lib.hid hc; have Hhd := Lib.hid hd; clear h hz hp hc hd
  go_enter Tryz.func11, Tryz.ntmps11
  go_wp2_with (go_at_call 26; refine (ent_ok Hhp.out (HE.out.expr (Below.refl _ _) _)).mono ?_; rintro e w1 ⟨k1, a1, t1, n1, o1, l1, c1, q1, hq1, rfl, hb, hx⟩; refine Hid.out ?_)
  have hA : Below w1.heap.size w1 (w1.alloc (Obj.cells #[.int .i64 k1, .int .i64 a1, .string t1, .int .i64 n1, .slice o1 l1 c1] 25)) := (Below.refl _ _).alloc (Nat.le_refl _) _
  have B1 := Lib.hid (Below.chain (Below.refl _ _) (Below.chain hb hA))
  have X1_1 := Lib.hid (Bx5.new w1 (.int .i64 k1) (.int .i64 a1) (.string t1) (.int .i64 n1) (.slice o1 l1 c1))
  have S1_1 := Lib.hid (hx.below hA)
  clear hA hb hx
  refine Lib.hid ?_
  go_wp2_with (go_at_call 16; refine (ent_ok (k := 3) Hhc.out (HE.out.part B1.out _ 3 (by decide))).mono ?_; rintro e w2 ⟨k2, a2, t2, n2, o2, l2, c2, q2, hq2, rfl, hb, hx⟩; refine Hid.out ?_)
  have hA : Below w2.heap.size w2 (w2.alloc (Obj.cells #[.int .i64 k2, .int .i64 a2, .string t2, .int .i64 n2, .slice o2 l2 c2] 25)) := (Below.refl _ _).alloc (Nat.le_refl _) _
  have B2 := Lib.hid (Below.chain B1.out (Below.chain hb hA))
  have X1_2 := Lib.hid (X1_1.out.below (Below.chain hb hA))
  clear X1_1
  have S1_2 := Lib.hid (S1_1.out.below (Below.chain hb hA))
  clear S1_1
  have X2_2 := Lib.hid (Bx5.new w2 (.int .i64 k2) (.int .i64 a2) (.string t2) (.int .i64 n2) (.slice o2 l2 c2))
  have S2_2 := Lib.hid (hx.below hA)
  clear hA hb hx
  refine Lib.hid ?_
  go_wp2_with (go_at_call 13; refine (ent_bad Hhd.out (HE.out.parse B2.out _)).mono ?_; rintro e w3 ⟨rfl, hb⟩; refine Hid.out ?_)
  have hA : Below w3.heap.size w3 (w3.alloc (Obj.cells #[.int .i64 0, .int .i64 0, .string ⟨#[]⟩, .int .i64 0, .slice none 0 0] 25)) := (Below.refl _ _).alloc (Nat.le_refl _) _
  have B3 := Lib.hid (Below.chain B2.out (Below.chain hb hA))
  have X1_3 := Lib.hid (X1_2.out.below (Below.chain hb hA))
  clear X1_2
  have S1_3 := Lib.hid (S1_2.out.below (Below.chain hb hA))
  clear S1_2
  have X2_3 := Lib.hid (X2_2.out.below (Below.chain hb hA))
  clear X2_2
  have S2_3 := Lib.hid (S2_2.out.below (Below.chain hb hA))
  clear S2_2
  have X3_3 := Lib.hid (Bx5.new w3 (.int .i64 0) (.int .i64 0) (.string ⟨#[]⟩) (.int .i64 0) (.slice none 0 0))
  clear hA hb
  refine Lib.hid ?_
  go_wp2_with (go_at_call 12; refine (HE.out.awake B3.out).mono ?_; rintro e w4 ⟨rfl, hb⟩; refine Hid.out ?_)
  have B4 := Lib.hid (Below.chain B3.out hb)
  clear hb
  refine Lib.hid ?_
  go_wp2
  go_ret
  exact ⟨rfl, B4.out⟩
set_option maxRecDepth 20000 in
set_option maxHeartbeats 4000000 in
theorem lhold_x3 (s : ByteArray) (g1 : decide ((1000 : Int) < (s.size : Int)) = false) (x : Syn) (hp : pAns 3 s = .ok x) (a' b' c' d' d2 : Int) (j1 j2 j3 j4 i1 z : Syn) (ta tb tc : ByteArray) (c : Syn) (hc : pAns 3 ((⟨#[40]⟩ : ByteArray) ++ s ++ (⟨#[10, 41]⟩ : ByteArray)) = .ok c) (hd : pAns 0 ((⟨#[112, 114, 111, 99, 32, 112, 40, 41, 32, 123, 32, 120, 32, 58, 61, 32, 45, 32]⟩ : ByteArray) ++ ((⟨#[40]⟩ : ByteArray) ++ s ++ (⟨#[10, 41]⟩ : ByteArray)) ++ (⟨#[10, 59, 32, 125]⟩ : ByteArray)) = .ok (.mk 0 a' ⟨#[]⟩ 0 [.mk 2 b' ta 0 [j1, j2, j3, j4, .mk 6 c' tb 0 [(.mk 9 d' ⟨#[]⟩ 0 [i1, .mk 21 d2 tc 0 [z]])]]])) (he : bareS z = bareS c) (w : World) (h : Env w) :
    Calls Tryz.prog 11 #[.string s, .bool true] w fun e w' => e = .returned (.bool true) ∧ Below w.heap.size w w' := by
  have hz : s.size ≤ 1000 := by
    rw [decide_eq_false_iff_not] at g1
    omega
  have u0 : ¬ 9223372036854775807 < 1 + s.size := by omega
  have u1 : ¬ 9223372036854775807 < 1 + s.size + 2 := by omega
  have u2 : ¬ 9223372036854775807 < ((⟨#[40]⟩ : ByteArray) ++ s).size + 2 := by simp only [ByteArray.size_append, show (⟨#[112, 114, 111, 99, 32, 112, 40, 41, 32, 123, 32, 97, 115, 115, 101, 114, 116, 32]⟩ : ByteArray).size = 18 from rfl, show (⟨#[112, 114, 111, 99, 32, 112, 40, 41, 32, 123, 32, 120, 32, 58, 61, 32, 45, 32]⟩ : ByteArray).size = 18 from rfl, show (⟨#[40]⟩ : ByteArray).size = 1 from rfl, show (⟨#[10, 41]⟩ : ByteArray).size = 2 from rfl, show (⟨#[10, 59, 32, 125]⟩ : ByteArray).size = 4 from rfl]; omega
  have u3 : ¬ 9223372036854775807 < 18 + (1 + s.size + 2) := by omega
  have u4 : ¬ 9223372036854775807 < 18 + (1 + s.size + 2) + 4 := by omega
  have u5 : ¬ 9223372036854775807 < 18 + (((⟨#[40]⟩ : ByteArray) ++ s ++ (⟨#[10, 41]⟩ : ByteArray))).size := by simp only [ByteArray.size_append, show (⟨#[112, 114, 111, 99, 32, 112, 40, 41, 32, 123, 32, 97, 115, 115, 101, 114, 116, 32]⟩ : ByteArray).size = 18 from rfl, show (⟨#[112, 114, 111, 99, 32, 112, 40, 41, 32, 123, 32, 120, 32, 58, 61, 32, 45, 32]⟩ : ByteArray).size = 18 from rfl, show (⟨#[40]⟩ : ByteArray).size = 1 from rfl, show (⟨#[10, 41]⟩ : ByteArray).size = 2 from rfl, show (⟨#[10, 59, 32, 125]⟩ : ByteArray).size = 4 from rfl]; omega
  have u6 : ¬ 9223372036854775807 < ((⟨#[112, 114, 111, 99, 32, 112, 40, 41, 32, 123, 32, 120, 32, 58, 61, 32, 45, 32]⟩ : ByteArray) ++ ((⟨#[40]⟩ : ByteArray) ++ s ++ (⟨#[10, 41]⟩ : ByteArray))).size + 4 := by simp only [ByteArray.size_append, show (⟨#[112, 114, 111, 99, 32, 112, 40, 41, 32, 123, 32, 97, 115, 115, 101, 114, 116, 32]⟩ : ByteArray).size = 18 from rfl, show (⟨#[112, 114, 111, 99, 32, 112, 40, 41, 32, 123, 32, 120, 32, 58, 61, 32, 45, 32]⟩ : ByteArray).size = 18 from rfl, show (⟨#[40]⟩ : ByteArray).size = 1 from rfl, show (⟨#[10, 41]⟩ : ByteArray).size = 2 from rfl, show (⟨#[10, 59, 32, 125]⟩ : ByteArray).size = 4 from rfl]; omega
  have HE := Lib.hid h; have Hhp := Lib.hid hp; have Hhc := Lib.hid hc; have Hhd := Lib.hid hd; have Hhe := Lib.hid he; clear h hz hp hc hd he
  go_enter Tryz.func11, Tryz.ntmps11
  go_wp2_with (go_at_call 26; refine (ent_ok Hhp.out (HE.out.expr (Below.refl _ _) _)).mono ?_; rintro e w1 ⟨k1, a1, t1, n1, o1, l1, c1, q1, hq1, rfl, hb, hx⟩; refine Hid.out ?_)
  have hA : Below w1.heap.size w1 (w1.alloc (Obj.cells #[.int .i64 k1, .int .i64 a1, .string t1, .int .i64 n1, .slice o1 l1 c1] 25)) := (Below.refl _ _).alloc (Nat.le_refl _) _
  have B1 := Lib.hid (Below.chain (Below.refl _ _) (Below.chain hb hA))
  have X1_1 := Lib.hid (Bx5.new w1 (.int .i64 k1) (.int .i64 a1) (.string t1) (.int .i64 n1) (.slice o1 l1 c1))
  have S1_1 := Lib.hid (hx.below hA)
  clear hA hb hx
  refine Lib.hid ?_
  go_wp2_with (go_at_call 16; refine (ent_ok (k := 3) Hhc.out (HE.out.part B1.out _ 3 (by decide))).mono ?_; rintro e w2 ⟨k2, a2, t2, n2, o2, l2, c2, q2, hq2, rfl, hb, hx⟩; refine Hid.out ?_)
  have hA : Below w2.heap.size w2 (w2.alloc (Obj.cells #[.int .i64 k2, .int .i64 a2, .string t2, .int .i64 n2, .slice o2 l2 c2] 25)) := (Below.refl _ _).alloc (Nat.le_refl _) _
  have B2 := Lib.hid (Below.chain B1.out (Below.chain hb hA))
  have X1_2 := Lib.hid (X1_1.out.below (Below.chain hb hA))
  clear X1_1
  have S1_2 := Lib.hid (S1_1.out.below (Below.chain hb hA))
  clear S1_1
  have X2_2 := Lib.hid (Bx5.new w2 (.int .i64 k2) (.int .i64 a2) (.string t2) (.int .i64 n2) (.slice o2 l2 c2))
  have S2_2 := Lib.hid (hx.below hA)
  clear hA hb hx
  refine Lib.hid ?_
  go_wp2_with (go_at_call 13; refine (ent_ok Hhd.out (HE.out.parse B2.out _)).mono ?_; rintro e w3 ⟨k3, a3, t3, n3, o3, l3, c3, q3, hq3, rfl, hb, hx⟩; refine Hid.out ?_)
  have hA : Below w3.heap.size w3 (w3.alloc (Obj.cells #[.int .i64 k3, .int .i64 a3, .string t3, .int .i64 n3, .slice o3 l3 c3] 25)) := (Below.refl _ _).alloc (Nat.le_refl _) _
  have B3 := Lib.hid (Below.chain B2.out (Below.chain hb hA))
  have X1_3 := Lib.hid (X1_2.out.below (Below.chain hb hA))
  clear X1_2
  have S1_3 := Lib.hid (S1_2.out.below (Below.chain hb hA))
  clear S1_2
  have X2_3 := Lib.hid (X2_2.out.below (Below.chain hb hA))
  clear X2_2
  have S2_3 := Lib.hid (S2_2.out.below (Below.chain hb hA))
  clear S2_2
  have X3_3 := Lib.hid (Bx5.new w3 (.int .i64 k3) (.int .i64 a3) (.string t3) (.int .i64 n3) (.slice o3 l3 c3))
  have S3_3 := Lib.hid (hx.below hA)
  clear hA hb hx
  refine Lib.hid ?_
  obtain ⟨⟨rfl, rfl, rfl, rfl⟩, p1, rfl, rfl, hs1⟩ := syn_kids 1 rfl S3_3.out
  clear hq3
  obtain ⟨p2, q2, p3, q3', e1, e2, hs3⟩ := hold_cells hs1
  obtain ⟨ks, asx, ts, ns, osx, ls, cs, qs, hqs, f0, f1, f2, f3, f4, hX, -⟩ := row_head hs3.row
  have r0 : (w3.alloc (Obj.cells #[.int .i64 0, .int .i64 a3, .string ⟨#[]⟩, .int .i64 0, .slice (some ⟨p1, 0, none⟩) 1 c3] 25)).cell? ⟨p3, 0, none⟩ = _ := f0
  have r1 : (w3.alloc (Obj.cells #[.int .i64 0, .int .i64 a3, .string ⟨#[]⟩, .int .i64 0, .slice (some ⟨p1, 0, none⟩) 1 c3] 25)).cell? ⟨p3, 1, none⟩ = _ := f1
  have r2 : (w3.alloc (Obj.cells #[.int .i64 0, .int .i64 a3, .string ⟨#[]⟩, .int .i64 0, .slice (some ⟨p1, 0, none⟩) 1 c3] 25)).cell? ⟨p3, 2, none⟩ = _ := f2
  have r3 : (w3.alloc (Obj.cells #[.int .i64 0, .int .i64 a3, .string ⟨#[]⟩, .int .i64 0, .slice (some ⟨p1, 0, none⟩) 1 c3] 25)).cell? ⟨p3, 3, none⟩ = _ := f3
  have r4 : (w3.alloc (Obj.cells #[.int .i64 0, .int .i64 a3, .string ⟨#[]⟩, .int .i64 0, .slice (some ⟨p1, 0, none⟩) 1 c3] 25)).cell? ⟨p3, 4, none⟩ = _ := f4
  obtain ⟨⟨rfl, rfl, rfl, rfl⟩, p4, rfl, rfl, hs4⟩ := syn_kids 2 rfl hX
  clear f0 f1 f2 f3 f4 hX hqs
  obtain ⟨v0, v1, v2, v3, v4, -, -⟩ := X3_3.out
  have g2 : (0 : Int) < 1 := by decide
  obtain ⟨-, -, -, -, -, -, -, -, -, -, -, -, -, -, -, hr4⟩ := row_head hs4.row
  obtain ⟨km, am, tm, nm, om, lm, cm, qm, -, -, -, -, -, ym, hM, -⟩ := row_head hr4
  obtain ⟨⟨rfl, rfl, rfl, rfl⟩, p5, rfl, rfl, hs5⟩ := syn_kids 1 rfl hM
  have z9 : (w3.alloc (Obj.cells #[.int .i64 0, .int .i64 a3, .string ⟨#[]⟩, .int .i64 0, .slice (some ⟨p1, 0, none⟩) 1 c3] 25)).cell? ⟨p4, 9, none⟩ = _ := ym
  obtain ⟨kz, az, tz, nz, oz, lz, cz, qz, -, y0, y1, y2, y3, y4, hZ, -⟩ := row_head hs5.row
  clear ym hM hr4
  have hAN : Below (w3.alloc (Obj.cells #[.int .i64 0, .int .i64 a3, .string ⟨#[]⟩, .int .i64 0, .slice (some ⟨p1, 0, none⟩) 1 c3] 25)).heap.size (w3.alloc (Obj.cells #[.int .i64 0, .int .i64 a3, .string ⟨#[]⟩, .int .i64 0, .slice (some ⟨p1, 0, none⟩) 1 c3] 25)) ((w3.alloc (Obj.cells #[.int .i64 0, .int .i64 a3, .string ⟨#[]⟩, .int .i64 0, .slice (some ⟨p1, 0, none⟩) 1 c3] 25)).alloc (Obj.cells #[.int .i64 9, .int .i64 asx, .string ⟨#[]⟩, .int .i64 0, .slice (some ⟨p4, 0, none⟩) 2 cs] 25)) := (Below.refl _ _).alloc (Nat.le_refl _) _
  have hsz : (w3.alloc (Obj.cells #[.int .i64 0, .int .i64 a3, .string ⟨#[]⟩, .int .i64 0, .slice (some ⟨p1, 0, none⟩) 1 c3] 25)).heap.size = w3.heap.size + 1 := by simp
  have xn := Bx5.new (w3.alloc (Obj.cells #[.int .i64 0, .int .i64 a3, .string ⟨#[]⟩, .int .i64 0, .slice (some ⟨p1, 0, none⟩) 1 c3] 25)) (.int .i64 9) (.int .i64 asx) (.string ⟨#[]⟩) (.int .i64 0) (.slice (some ⟨p4, 0, none⟩) 2 cs)
  rw [hsz] at xn
  have XN := Lib.hid xn
  clear hsz xn
  have BN := Lib.hid (Below.chain B3.out hAN)
  have X2N := Lib.hid (X2_3.out.below hAN)
  have S2N := S2_3.out.below hAN
  have hZN := hZ.below hAN
  have lt5 : p5 < (w3.alloc (Obj.cells #[.int .i64 0, .int .i64 a3, .string ⟨#[]⟩, .int .i64 0, .slice (some ⟨p1, 0, none⟩) 1 c3] 25)).heap.size := hs5.lt
  have w0 : ((w3.alloc (Obj.cells #[.int .i64 0, .int .i64 a3, .string ⟨#[]⟩, .int .i64 0, .slice (some ⟨p1, 0, none⟩) 1 c3] 25)).alloc (Obj.cells #[.int .i64 9, .int .i64 asx, .string ⟨#[]⟩, .int .i64 0, .slice (some ⟨p4, 0, none⟩) 2 cs] 25)).cell? ⟨p5, 0, none⟩ = _ := (hAN.cell (p := ⟨p5, 0, none⟩) lt5).trans y0
  have w1' : ((w3.alloc (Obj.cells #[.int .i64 0, .int .i64 a3, .string ⟨#[]⟩, .int .i64 0, .slice (some ⟨p1, 0, none⟩) 1 c3] 25)).alloc (Obj.cells #[.int .i64 9, .int .i64 asx, .string ⟨#[]⟩, .int .i64 0, .slice (some ⟨p4, 0, none⟩) 2 cs] 25)).cell? ⟨p5, 1, none⟩ = _ := (hAN.cell (p := ⟨p5, 1, none⟩) lt5).trans y1
  have w2' : ((w3.alloc (Obj.cells #[.int .i64 0, .int .i64 a3, .string ⟨#[]⟩, .int .i64 0, .slice (some ⟨p1, 0, none⟩) 1 c3] 25)).alloc (Obj.cells #[.int .i64 9, .int .i64 asx, .string ⟨#[]⟩, .int .i64 0, .slice (some ⟨p4, 0, none⟩) 2 cs] 25)).cell? ⟨p5, 2, none⟩ = _ := (hAN.cell (p := ⟨p5, 2, none⟩) lt5).trans y2
  have w3' : ((w3.alloc (Obj.cells #[.int .i64 0, .int .i64 a3, .string ⟨#[]⟩, .int .i64 0, .slice (some ⟨p1, 0, none⟩) 1 c3] 25)).alloc (Obj.cells #[.int .i64 9, .int .i64 asx, .string ⟨#[]⟩, .int .i64 0, .slice (some ⟨p4, 0, none⟩) 2 cs] 25)).cell? ⟨p5, 3, none⟩ = _ := (hAN.cell (p := ⟨p5, 3, none⟩) lt5).trans y3
  have w4' : ((w3.alloc (Obj.cells #[.int .i64 0, .int .i64 a3, .string ⟨#[]⟩, .int .i64 0, .slice (some ⟨p1, 0, none⟩) 1 c3] 25)).alloc (Obj.cells #[.int .i64 9, .int .i64 asx, .string ⟨#[]⟩, .int .i64 0, .slice (some ⟨p4, 0, none⟩) 2 cs] 25)).cell? ⟨p5, 4, none⟩ = _ := (hAN.cell (p := ⟨p5, 4, none⟩) lt5).trans y4
  have w9' : ((w3.alloc (Obj.cells #[.int .i64 0, .int .i64 a3, .string ⟨#[]⟩, .int .i64 0, .slice (some ⟨p1, 0, none⟩) 1 c3] 25)).alloc (Obj.cells #[.int .i64 9, .int .i64 asx, .string ⟨#[]⟩, .int .i64 0, .slice (some ⟨p4, 0, none⟩) 2 cs] 25)).cell? ⟨p4, 9, none⟩ = _ := (hAN.cell (p := ⟨p4, 9, none⟩) hs4.lt).trans z9
  have K1 := Lib.hid (fun d os => same_re hZN S2N (eq_of_bare Hhe.out) d os)
  have K2 := Lib.hid (fun d os => awake_re BN.out HE.out.tab HE.out.ev d os)
  have HW := Lib.hid (And.intro w0 (And.intro w1' (And.intro w2' (And.intro w3' w4')))); have HW9 := Lib.hid w9'
  clear hAN S2N hZN hZ w0 w1' w2' w3' w4' w9' z9 hs5 lt5 y0 y1 y2 y3 y4 hs4 hs3 hs1 u0 u1 u2 u3 u4 u5 u6
  go_wp2_with fail
  obtain ⟨w0, w1', w2', w3', w4'⟩ := HW.out
  have w9' := HW9.out
  have gXN0 := fun d os => cell_regrown XN.out.c0 d os
  have gXN1 := fun d os => cell_regrown XN.out.c1 d os
  have gXN2 := fun d os => cell_regrown XN.out.c2 d os
  have gXN3 := fun d os => cell_regrown XN.out.c3 d os
  have gXN4 := fun d os => cell_regrown XN.out.c4 d os
  have gX2N0 := fun d os => cell_regrown X2N.out.c0 d os
  have gX2N1 := fun d os => cell_regrown X2N.out.c1 d os
  have gX2N2 := fun d os => cell_regrown X2N.out.c2 d os
  have gX2N3 := fun d os => cell_regrown X2N.out.c3 d os
  have gX2N4 := fun d os => cell_regrown X2N.out.c4 d os
  have gr0 := fun d os => cell_regrown w0 d os
  have gr1 := fun d os => cell_regrown w1' d os
  have gr2 := fun d os => cell_regrown w2' d os
  have gr3 := fun d os => cell_regrown w3' d os
  have gr4 := fun d os => cell_regrown w4' d os
  have gr5 := fun d os => cell_regrown w9' d os
  refine wp_region_quiet_below (by kernel_rfl) (by kernel_rfl) ?_
  repeat (quiet_step (first | exact K1.out _ _ | exact K2.out _ _))
  refine wpQuiet_nil ?_
  intro _ hw'
  obtain ⟨⟨dq, osq⟩, hw''⟩ := hw'
  subst hw''
  go_wp2
  go_ret
  exact ⟨rfl, Below.chain BN.out (below_regrown _ dq osq)⟩
theorem lholds_walk (s : ByteArray) (b : Bool) (w : World) (h : Env w) :
    Calls Tryz.prog 11 #[.string s, .bool b] w fun e w' => e = .returned (.bool true) ∧ Below w.heap.size w w' := by
  cases g1 : decide ((1000 : Int) < (s.size : Int)) with
  | true =>
    cases b with
    | true => exact lhold_big_true s g1 w h
    | false => exact lhold_big_false s g1 w h
  | false =>
    have hz : s.size ≤ 1000 := by
      rw [decide_eq_false_iff_not] at g1
      omega
    cases b with
    | true =>
      rcases pAns_cases 3 s with ⟨x, hp⟩ | ⟨a1, c1, hp⟩
      · rcases pAns_cases 3 ((⟨#[40]⟩ : ByteArray) ++ s ++ (⟨#[10, 41]⟩ : ByteArray)) with ⟨c, hc⟩ | ⟨ac, cc, hc⟩
        · have hcx : bareS x = bareS c := by
            rcases holds_par hz hp with ⟨a, q⟩ | ⟨c', q, q2⟩
            · rw [hc] at q; cases q
            · rw [hc] at q; cases q; exact q2
          rcases holds_expr hz hp with ⟨a, q⟩ | ⟨y, q, a', b', c', j1, j2, j3, j4, d', i1, d2, x1, t1, t2, t3, rfl, q2⟩
          · exact lhold_x2 s g1 x hp c hc a q w h
          · exact lhold_x3 s g1 x hp a' b' c' d' d2 j1 j2 j3 j4 i1 x1 t1 t2 t3 c hc q (q2.trans hcx) w h
        · exact lhold_x1 s g1 x hp ac cc hc w h
      · exact lhold_bad s g1 a1 c1 hp w h
    | false =>
      rcases pAns_cases 2 s with ⟨c, hc⟩ | ⟨ac, cc, hc⟩
      · rcases holds_cond hz hc with ⟨a, q⟩ | ⟨y, q, a', b', c', j1, j2, j3, j4, d', c1, t1, t2, rfl, q2⟩
        · exact lhold_c2 s g1 c hc a q w h
        · exact lhold_c3 s g1 a' b' c' d' j1 j2 j3 j4 c1 t1 t2 c hc q q2 w h
      · exact lhold_c1 s g1 ac cc hc w h
end Go.Proofs.YtdibcllakkjegaaGreatDoor

