import Derived.Test.YtdibcllakkjegaaGreatDoorCut32
import Derived.Test.YtdibcllakkjegaaGreatDoorJo1

set_option linter.unusedVariables false
/-
  The law ParserJoins.
-/
set_option linter.unusedSimpArgs false
set_option linter.unusedVariables false
namespace Go.Proofs.YtdibcllakkjegaaGreatDoor
open Go Go.Proofs Go.RowKit Go.Sort

/-- A row of trees that may be empty. -/
def RowA (lo : Nat) (W : World) (ks : List Syn) (ao : Option Addr) (l c : Nat) : Prop := l = ks.length ∧ ks.length ≤ c ∧ c ≤ maxLen ∧ (ks = [] ∨ ∃ b, ao = some ⟨b, 0, none⟩ ∧ SL lo W ks b c)
theorem syn_rows {lo : Nat} {W : World} {k a n k4 a4 n4 : Int} {t t4 : ByteArray} {ks : List Syn} {o4 : Option Addr} {l4 c4 : Nat} (h : synAt lo W (.mk k a t n ks) (.agg #[.int .i64 k4, .int .i64 a4, .string t4, .int .i64 n4, .slice o4 l4 c4])) : RowA lo W ks o4 l4 c4 := by
  obtain ⟨kv, ev, hk⟩ := synAt_mk.mp h
  simp only [Value.agg.injEq, Array.mk.injEq, List.cons.injEq, Value.int.injEq, Value.string.injEq, and_true, true_and] at ev
  obtain ⟨-, -, -, -, ev⟩ := ev
  rw [← ev] at hk
  rcases hk with ⟨h1, h2⟩ | ⟨b, c, e1, h1, h2, h3, h4, h5⟩
  · simp only [Value.slice.injEq] at h2
    obtain ⟨-, rfl, rfl⟩ := h2
    obtain rfl := List.length_eq_zero_iff.1 h1
    exact ⟨rfl, Nat.le_refl _, Nat.zero_le _, .inl rfl⟩
  · simp only [Value.slice.injEq] at e1
    obtain ⟨rfl, rfl, rfl⟩ := e1
    exact ⟨rfl, h1, h2, .inr ⟨b, rfl, h3, h4, h1, h2, h5⟩⟩
theorem RowA.below {lo : Nat} {W W' : World} {ks : List Syn} {ao : Option Addr} {l c : Nat} (h : RowA lo W ks ao l c) (hb : Below W.heap.size W W') : RowA lo W' ks ao l c := by
  obtain ⟨h1, h2, h3, h4⟩ := h
  refine ⟨h1, h2, h3, ?_⟩
  rcases h4 with h4 | ⟨b, e, h4⟩
  · exact .inl h4
  · exact .inr ⟨b, e, h4.below hb⟩
/-- The tree at a place of a row. -/
theorem RowA.get {lo : Nat} {W : World} {ks : List Syn} {ao : Option Addr} {l c : Nat} (h : RowA lo W ks ao l c) (i : Nat) (hi : i < ks.length) : ∃ b k a t n o2 l2 c2, ao = some ⟨b, 0, none⟩ ∧ b < W.heap.size ∧
    W.cell? ⟨b, i * 5, none⟩ = some (.int .i64 k) ∧ W.cell? ⟨b, i * 5 + 1, none⟩ = some (.int .i64 a) ∧ W.cell? ⟨b, i * 5 + 2, none⟩ = some (.string t) ∧ W.cell? ⟨b, i * 5 + 3, none⟩ = some (.int .i64 n) ∧ W.cell? ⟨b, i * 5 + 4, none⟩ = some (.slice o2 l2 c2) ∧
    synAt lo W ks[i] (.agg #[.int .i64 k, .int .i64 a, .string t, .int .i64 n, .slice o2 l2 c2]) := by
  obtain ⟨-, -, -, h4⟩ := h
  rcases h4 with h4 | ⟨b, e, h4⟩
  · subst h4; simp at hi
  · obtain ⟨v0, v1, v2, v3, v4, c0, c1, c2, c3, c4, hx⟩ := rowAt_get ks b 0 i hi h4.row
    obtain ⟨k, a, t, n, o2, l2, cc, q, e1, e2, -⟩ := hx.shape
    simp only [Value.agg.injEq, Array.mk.injEq, List.cons.injEq, and_true] at e2
    obtain ⟨rfl, rfl, rfl, rfl, rfl⟩ := e2
    simp only [Nat.zero_add] at c0 c1 c2 c3 c4
    exact ⟨b, k, a, t, n, o2, l2, cc, e, h4.lt, c0, c1, c2, c3, c4, hx⟩
theorem bareL_get : ∀ {xs ys : List Syn} (h : bareL xs = bareL ys) (i : Nat) (h1 : i < xs.length) (h2 : i < ys.length), bareS xs[i] = bareS ys[i]
  | [], _, _, i, h1, _ => by simp at h1
  | x :: xs, [], _, i, _, h2 => by simp at h2
  | x :: xs, y :: ys, h, i, h1, h2 => by
    rw [bareL, bareL, List.cons.injEq] at h
    cases i with
    | zero => exact h.1
    | succ i => exact bareL_get h.2 i (by simpa using h1) (by simpa using h2)
theorem sameAll_re {lo lo2 : Nat} {W : World} {x y : Syn} {v u : Value} (hx : synAt lo W x v) (hy : synAt lo2 W y u) {b : Bool} (he : eqS true x y = b) (d : Nat) (os : Array Obj) :
    Calls Tryz.prog 15 #[v, u] (grow (redrawn W d) os) fun e w'' => e = .returned (.bool b) ∧ ∃ p : Regrown, w'' = grow (redrawn W p.d) p.os := by
  have hb := below_regrown W d os
  have h := sameAll_any x y lo lo2 v u _ (hx.below hb) (hy.below hb)
  rw [he] at h
  exact Calls.regrown_of h
set_option maxRecDepth 20000 in
set_option maxHeartbeats 4000000 in
theorem ljo_big1 (a b : ByteArray) (g1 : decide ((1000 : Int) < (a.size : Int)) = true) (w : World) (h : Env w) :
    Calls Tryz.prog 7 #[.string a, .string b] w fun e w' => e = .returned (.bool true) ∧ Below w.heap.size w w' := by
  have HE := Lib.hid h; clear h
  go_enter Tryz.func7, Tryz.ntmps7
  go_wp2_with (go_at_call 12; refine (HE.out.awake (Below.refl _ _)).mono ?_; rintro e w1 ⟨rfl, hb⟩; refine Hid.out ?_)
  have B1 := Lib.hid (Below.chain (Below.refl _ _) hb)
  clear hb
  refine Lib.hid ?_
  go_wp2
  go_ret
  exact ⟨rfl, B1.out⟩
set_option maxRecDepth 20000 in
set_option maxHeartbeats 4000000 in
theorem ljo_big2 (a b : ByteArray) (g1 : decide ((1000 : Int) < (a.size : Int)) = false) (g2 : decide ((1000 : Int) < (b.size : Int)) = true) (w : World) (h : Env w) :
    Calls Tryz.prog 7 #[.string a, .string b] w fun e w' => e = .returned (.bool true) ∧ Below w.heap.size w w' := by
  have HE := Lib.hid h; clear h
  go_enter Tryz.func7, Tryz.ntmps7
  go_wp2_with (go_at_call 12; refine (HE.out.awake (Below.refl _ _)).mono ?_; rintro e w1 ⟨rfl, hb⟩; refine Hid.out ?_)
  have B1 := Lib.hid (Below.chain (Below.refl _ _) hb)
  clear hb
  refine Lib.hid ?_
  go_wp2
  go_ret
  exact ⟨rfl, B1.out⟩
set_option maxRecDepth 20000 in
set_option maxHeartbeats 4000000 in
theorem ljo_bad1 (a b : ByteArray) (g1 : decide ((1000 : Int) < (a.size : Int)) = false) (g2 : decide ((1000 : Int) < (b.size : Int)) = false) (at1 : Int) (cc : Nat) (hp : pAns 0 a = .error (at1, cc)) (y : Syn) (hq : pAns 0 b = .ok y) (w : World) (h : Env w) :
    Calls Tryz.prog 7 #[.string a, .string b] w fun e w' => e = .returned (.bool true) ∧ Below w.heap.size w w' := by
  have HE := Lib.hid h; have HP := Lib.hid hp; have HQ := Lib.hid hq; clear h hp hq
  go_enter Tryz.func7, Tryz.ntmps7
  go_wp2_with (go_at_call 13; refine (ent_code HP.out (HE.out.parse (Below.refl _ _) _)).mono ?_; rintro e w1 ⟨hc1, rfl, hb⟩; refine Hid.out ?_)
  have hA : Below w1.heap.size w1 (w1.alloc (Obj.cells #[.int .i64 0, .int .i64 0, .string ⟨#[]⟩, .int .i64 0, .slice none 0 0] 25)) := (Below.refl _ _).alloc (Nat.le_refl _) _
  have B1 := Lib.hid (Below.chain (Below.refl _ _) (Below.chain hb hA))
  have X1_1 := Lib.hid (Bx5.new w1 (.int .i64 0) (.int .i64 0) (.string ⟨#[]⟩) (.int .i64 0) (.slice none 0 0))
  clear hA hb
  obtain ⟨te1, te1'⟩ := err_ne hc1
  refine Lib.hid ?_
  go_wp2_with (go_at_call 13; refine (ent_ok HQ.out (HE.out.parse B1.out _)).mono ?_; rintro e w2 ⟨k2, a2, t2, n2, o2, l2, c2, q2, hq2, rfl, hb, hx⟩; refine Hid.out ?_)
  have hA : Below w2.heap.size w2 (w2.alloc (Obj.cells #[.int .i64 k2, .int .i64 a2, .string t2, .int .i64 n2, .slice o2 l2 c2] 25)) := (Below.refl _ _).alloc (Nat.le_refl _) _
  have B2 := Lib.hid (Below.chain B1.out (Below.chain hb hA))
  have X1_2 := Lib.hid (X1_1.out.below (Below.chain hb hA))
  clear X1_1
  have X2_2 := Lib.hid (Bx5.new w2 (.int .i64 k2) (.int .i64 a2) (.string t2) (.int .i64 n2) (.slice o2 l2 c2))
  have S2_2 := Lib.hid (hx.below hA)
  clear hA hb hx
  refine Lib.hid ?_
  go_wp2_with (go_at_call 12; refine (HE.out.awake B2.out).mono ?_; rintro e w3 ⟨rfl, hb⟩; refine Hid.out ?_)
  have B3 := Lib.hid (Below.chain B2.out hb)
  clear hb
  refine Lib.hid ?_
  go_wp2
  go_ret
  exact ⟨rfl, B3.out⟩
set_option maxRecDepth 20000 in
set_option maxHeartbeats 4000000 in
theorem ljo_bad2 (a b : ByteArray) (g1 : decide ((1000 : Int) < (a.size : Int)) = false) (g2 : decide ((1000 : Int) < (b.size : Int)) = false) (at1 : Int) (cc : Nat) (hp : pAns 0 a = .error (at1, cc)) (a2 : Int) (c2 : Nat) (hq : pAns 0 b = .error (a2, c2)) (w : World) (h : Env w) :
    Calls Tryz.prog 7 #[.string a, .string b] w fun e w' => e = .returned (.bool true) ∧ Below w.heap.size w w' := by
  have HE := Lib.hid h; have HP := Lib.hid hp; have HQ := Lib.hid hq; clear h hp hq
  go_enter Tryz.func7, Tryz.ntmps7
  go_wp2_with (go_at_call 13; refine (ent_code HP.out (HE.out.parse (Below.refl _ _) _)).mono ?_; rintro e w1 ⟨hc1, rfl, hb⟩; refine Hid.out ?_)
  have hA : Below w1.heap.size w1 (w1.alloc (Obj.cells #[.int .i64 0, .int .i64 0, .string ⟨#[]⟩, .int .i64 0, .slice none 0 0] 25)) := (Below.refl _ _).alloc (Nat.le_refl _) _
  have B1 := Lib.hid (Below.chain (Below.refl _ _) (Below.chain hb hA))
  have X1_1 := Lib.hid (Bx5.new w1 (.int .i64 0) (.int .i64 0) (.string ⟨#[]⟩) (.int .i64 0) (.slice none 0 0))
  clear hA hb
  obtain ⟨te1, te1'⟩ := err_ne hc1
  refine Lib.hid ?_
  go_wp2_with (go_at_call 13; refine (ent_code HQ.out (HE.out.parse B1.out _)).mono ?_; rintro e w2 ⟨hc2, rfl, hb⟩; refine Hid.out ?_)
  have hA : Below w2.heap.size w2 (w2.alloc (Obj.cells #[.int .i64 0, .int .i64 0, .string ⟨#[]⟩, .int .i64 0, .slice none 0 0] 25)) := (Below.refl _ _).alloc (Nat.le_refl _) _
  have B2 := Lib.hid (Below.chain B1.out (Below.chain hb hA))
  have X1_2 := Lib.hid (X1_1.out.below (Below.chain hb hA))
  clear X1_1
  have X2_2 := Lib.hid (Bx5.new w2 (.int .i64 0) (.int .i64 0) (.string ⟨#[]⟩) (.int .i64 0) (.slice none 0 0))
  clear hA hb
  obtain ⟨te2, te2'⟩ := err_ne hc2
  refine Lib.hid ?_
  go_wp2_with (go_at_call 12; refine (HE.out.awake B2.out).mono ?_; rintro e w3 ⟨rfl, hb⟩; refine Hid.out ?_)
  have B3 := Lib.hid (Below.chain B2.out hb)
  clear hb
  refine Lib.hid ?_
  go_wp2
  go_ret
  exact ⟨rfl, B3.out⟩
set_option maxRecDepth 20000 in
set_option maxHeartbeats 4000000 in
theorem ljo_bad3 (a b : ByteArray) (g1 : decide ((1000 : Int) < (a.size : Int)) = false) (g2 : decide ((1000 : Int) < (b.size : Int)) = false) (x : Syn) (hp : pAns 0 a = .ok x) (at2 : Int) (cc : Nat) (hq : pAns 0 b = .error (at2, cc)) (w : World) (h : Env w) :
    Calls Tryz.prog 7 #[.string a, .string b] w fun e w' => e = .returned (.bool true) ∧ Below w.heap.size w w' := by
  have HE := Lib.hid h; have HP := Lib.hid hp; have HQ := Lib.hid hq; clear h hp hq
  go_enter Tryz.func7, Tryz.ntmps7
  go_wp2_with (go_at_call 13; refine (ent_ok HP.out (HE.out.parse (Below.refl _ _) _)).mono ?_; rintro e w1 ⟨k1, a1, t1, n1, o1, l1, c1, q1, hq1, rfl, hb, hx⟩; refine Hid.out ?_)
  have hA : Below w1.heap.size w1 (w1.alloc (Obj.cells #[.int .i64 k1, .int .i64 a1, .string t1, .int .i64 n1, .slice o1 l1 c1] 25)) := (Below.refl _ _).alloc (Nat.le_refl _) _
  have B1 := Lib.hid (Below.chain (Below.refl _ _) (Below.chain hb hA))
  have X1_1 := Lib.hid (Bx5.new w1 (.int .i64 k1) (.int .i64 a1) (.string t1) (.int .i64 n1) (.slice o1 l1 c1))
  have S1_1 := Lib.hid (hx.below hA)
  clear hA hb hx
  refine Lib.hid ?_
  go_wp2_with (go_at_call 13; refine (ent_code HQ.out (HE.out.parse B1.out _)).mono ?_; rintro e w2 ⟨hc2, rfl, hb⟩; refine Hid.out ?_)
  have hA : Below w2.heap.size w2 (w2.alloc (Obj.cells #[.int .i64 0, .int .i64 0, .string ⟨#[]⟩, .int .i64 0, .slice none 0 0] 25)) := (Below.refl _ _).alloc (Nat.le_refl _) _
  have B2 := Lib.hid (Below.chain B1.out (Below.chain hb hA))
  have X1_2 := Lib.hid (X1_1.out.below (Below.chain hb hA))
  clear X1_1
  have S1_2 := Lib.hid (S1_1.out.below (Below.chain hb hA))
  clear S1_1
  have X2_2 := Lib.hid (Bx5.new w2 (.int .i64 0) (.int .i64 0) (.string ⟨#[]⟩) (.int .i64 0) (.slice none 0 0))
  clear hA hb
  obtain ⟨te2, te2'⟩ := err_ne hc2
  refine Lib.hid ?_
  go_wp2_with (go_at_call 12; refine (HE.out.awake B2.out).mono ?_; rintro e w3 ⟨rfl, hb⟩; refine Hid.out ?_)
  have B3 := Lib.hid (Below.chain B2.out hb)
  clear hb
  refine Lib.hid ?_
  go_wp2
  go_ret
  exact ⟨rfl, B3.out⟩
set_option maxRecDepth 20000 in
set_option maxHeartbeats 4000000 in
theorem ljo_good (a b : ByteArray) (g1 : decide ((1000 : Int) < (a.size : Int)) = false) (g2 : decide ((1000 : Int) < (b.size : Int)) = false) (x y : Syn) (hp : pAns 0 a = .ok x) (hq : pAns 0 b = .ok y) (w : World) (h : Env w) :
    Calls Tryz.prog 7 #[.string a, .string b] w fun e w' => e = .returned (.bool true) ∧ Below w.heap.size w w' := by
  have hz : a.size ≤ 1000 ∧ b.size ≤ 1000 := by
    rw [decide_eq_false_iff_not] at g1 g2
    omega
  have u1 : ¬ 9223372036854775807 < a.size + 1 := by omega
  have u2 : ¬ 9223372036854775807 < a.size + 1 + b.size := by omega
  have u3 : ¬ 9223372036854775807 < (a ++ (⟨#[10]⟩ : ByteArray)).size + b.size := by simp only [ByteArray.size_append, show (⟨#[10]⟩ : ByteArray).size = 1 from rfl]; omega
  obtain ⟨z, hm, zs, hk1, hk2⟩ := joins_math (by omega) hp hq
  obtain ⟨xk, xa, xt, xn, xs⟩ := x
  obtain ⟨yk, ya, yt, yn, ys⟩ := y
  obtain ⟨zk, za, zt, zn, zks⟩ := z
  have hk1 : zks = xs ++ zs := hk1
  have hk2 : bareL ys = bareL zs := hk2
  subst hk1
  have hl : ys.length = zs.length := by rw [← bareL_length ys, hk2, bareL_length]
  have HE := Lib.hid h; have HP := Lib.hid hp; have HQ := Lib.hid hq; have HM := Lib.hid hm; have HK2 := Lib.hid hk2; have HL := Lib.hid hl
  clear h hp hq hm hk2 hl hz
  go_enter Tryz.func7, Tryz.ntmps7
  go_wp2_with (go_at_call 13; refine (ent_ok HP.out (HE.out.parse (Below.refl _ _) _)).mono ?_; rintro e w1 ⟨k1, a1, t1, n1, o1, l1, c1, q1, hq1, rfl, hb, hx⟩; refine Hid.out ?_)
  have hA : Below w1.heap.size w1 (w1.alloc (Obj.cells #[.int .i64 k1, .int .i64 a1, .string t1, .int .i64 n1, .slice o1 l1 c1] 25)) := (Below.refl _ _).alloc (Nat.le_refl _) _
  have B1 := Lib.hid (Below.chain (Below.refl _ _) (Below.chain hb hA))
  have X1_1 := Lib.hid (Bx5.new w1 (.int .i64 k1) (.int .i64 a1) (.string t1) (.int .i64 n1) (.slice o1 l1 c1))
  have S1_1 := Lib.hid (hx.below hA)
  clear hA hb hx
  refine Lib.hid ?_
  go_wp2_with (go_at_call 13; refine (ent_ok HQ.out (HE.out.parse B1.out _)).mono ?_; rintro e w2 ⟨k2, a2, t2, n2, o2, l2, c2, q2, hq2, rfl, hb, hx⟩; refine Hid.out ?_)
  have hA : Below w2.heap.size w2 (w2.alloc (Obj.cells #[.int .i64 k2, .int .i64 a2, .string t2, .int .i64 n2, .slice o2 l2 c2] 25)) := (Below.refl _ _).alloc (Nat.le_refl _) _
  have B2 := Lib.hid (Below.chain B1.out (Below.chain hb hA))
  have X1_2 := Lib.hid (X1_1.out.below (Below.chain hb hA))
  clear X1_1
  have S1_2 := Lib.hid (S1_1.out.below (Below.chain hb hA))
  clear S1_1
  have X2_2 := Lib.hid (Bx5.new w2 (.int .i64 k2) (.int .i64 a2) (.string t2) (.int .i64 n2) (.slice o2 l2 c2))
  have S2_2 := Lib.hid (hx.below hA)
  clear hA hb hx
  refine Lib.hid ?_
  go_wp2_with (go_at_call 13; refine (ent_ok HM.out (HE.out.parse B2.out _)).mono ?_; rintro e w3 ⟨k3, a3, t3, n3, o3, l3, c3, q3, hq3, rfl, hb, hx⟩; refine Hid.out ?_)
  have hA : Below w3.heap.size w3 (w3.alloc (Obj.cells #[.int .i64 k3, .int .i64 a3, .string t3, .int .i64 n3, .slice o3 l3 c3] 25)) := (Below.refl _ _).alloc (Nat.le_refl _) _
  have B3 := Lib.hid (Below.chain B2.out (Below.chain hb hA))
  have X1_3 := Lib.hid (X1_2.out.below (Below.chain hb hA))
  clear X1_2
  have S1_3 := Lib.hid (S1_2.out.below (Below.chain hb hA))
  clear S1_2
  have X2_3 := Lib.hid (X2_2.out.below (Below.chain hb hA))
  clear X2_2
  have S2_3 := Lib.hid (S2_2.out.below (Below.chain hb hA))
  clear S2_2
  have X3_3 := Lib.hid (Bx5.new w3 (.int .i64 k3) (.int .i64 a3) (.string t3) (.int .i64 n3) (.slice o3 l3 c3))
  have S3_3 := Lib.hid (hx.below hA)
  clear hA hb hx
  refine Lib.hid ?_
  have rx := syn_rows S1_3.out
  have ry := syn_rows S2_3.out
  have rz := syn_rows S3_3.out
  clear hq1 hq2 hq3 S1_3 S2_3 S3_3
  obtain ⟨nx, hnx⟩ : ∃ nx, xs.length = nx := ⟨_, rfl⟩
  obtain ⟨ny, hny⟩ : ∃ ny, ys.length = ny := ⟨_, rfl⟩
  have e1 : l1 = nx := by rw [← hnx]; exact rx.1
  have e2 : l2 = ny := by rw [← hny]; exact ry.1
  have e3 : l3 = nx + ny := by rw [← hnx, ← hny, HL.out, ← List.length_append]; exact rz.1
  have hmz : nx + ny ≤ 9223372036854775807 := by have := rz.2.1; have := rz.2.2.1; rw [← hnx, ← hny, HL.out, ← List.length_append]; unfold maxLen at *; omega
  subst e1 e2 e3
  have q0 : wrap64 ((l1 : Int) + (l2 : Int)) = (l1 : Int) + (l2 : Int) := (wrapB _ (by omega) (by omega)).2
  have q0k : IntKind.i64.wrap ((l1 : Int) + (l2 : Int)) = (l1 : Int) + (l2 : Int) := (wrapB _ (by omega) (by omega)).1
  have RX := Lib.hid rx; have RY := Lib.hid ry; have RZ := Lib.hid rz; have HNX := Lib.hid hnx; have HNY := Lib.hid hny; have HMZ := Lib.hid hmz
  obtain ⟨v10, v11, v12, v13, v14, -, -⟩ := X1_3.out
  obtain ⟨v20, v21, v22, v23, v24, -, -⟩ := X2_3.out
  obtain ⟨v30, v31, v32, v33, v34, -, -⟩ := X3_3.out
  have X1L := X1_3.out.lt; have X2L := X2_3.out.lt; have X3L := X3_3.out.lt
  clear rx ry rz hnx hny hmz u1 u2 u3

  go_wp2_with fail
  clear q0 q0k
  go_loopw [73] (fun iv wr => ∃ j : Nat, j ≤ l1 ∧ iv = .int .i64 (j : Int) ∧ Below (w3.alloc (Obj.cells #[.int .i64 k3, .int .i64 a3, .string t3, .int .i64 n3, .slice o3 (l1 + l2) c3] 25)).heap.size (w3.alloc (Obj.cells #[.int .i64 k3, .int .i64 a3, .string t3, .int .i64 n3, .slice o3 (l1 + l2) c3] 25)) wr) (fun iv _ => l1 - (intOf iv).toNat)
  case atStart => exact ⟨0, Nat.zero_le _, rfl, Below.refl _ _⟩
  case round =>
    obtain ⟨j, hj, rfl, hB⟩ := hrel
    by_cases hlt : j < l1
    · have hjL : j < xs.length := by rw [HNX.out]; exact hlt
      have hjz : j < (xs ++ zs).length := by rw [List.length_append, HNX.out, ← HL.out, HNY.out]; omega
      have hBW : Below (w3.alloc (Obj.cells #[.int .i64 k3, .int .i64 a3, .string t3, .int .i64 n3, .slice o3 (l1 + l2) c3] 25)).heap.size (w3.alloc (Obj.cells #[.int .i64 k3, .int .i64 a3, .string t3, .int .i64 n3, .slice o3 (l1 + l2) c3] 25)) wr := hB
      obtain ⟨bx, kx, axx, tx, nx, ox, lx, cx, eo, lbx, f0, f1, f2, f3, f4, hX⟩ := RX.out.get j hjL
      obtain ⟨bz, kz2, az, tz, nz, oz, lz, cz, ez, lbz, y0, y1, y2, y3, y4, hZ⟩ := RZ.out.get j hjz
      have hmz := HMZ.out
      have g0 : (0 : Int) ≤ (j : Int) := by omega
      have g3 : (j : Int) < (l1 : Int) := by omega
      have g4 : (j : Int) < (l1 : Int) + (l2 : Int) := by omega
      have ej : wrap64 ((j : Int) + 1) = (j : Int) + 1 := (wrapB _ (by omega) (by omega)).2
      have r0 := (hBW.cell (p := ⟨bx, j * 5, none⟩) lbx).trans f0
      have r1 := (hBW.cell (p := ⟨bx, j * 5 + 1, none⟩) lbx).trans f1
      have r2 := (hBW.cell (p := ⟨bx, j * 5 + 2, none⟩) lbx).trans f2
      have r3 := (hBW.cell (p := ⟨bx, j * 5 + 3, none⟩) lbx).trans f3
      have r4 := (hBW.cell (p := ⟨bx, j * 5 + 4, none⟩) lbx).trans f4
      have hA := (Below.refl wr.heap.size wr).alloc (Nat.le_refl _) (Obj.cells #[.int .i64 kx, .int .i64 axx, .string tx, .int .i64 nx, .slice ox lx cx] 25)
      have hBA := Below.chain hBW hA
      have m0 := (hBA.cell (p := ⟨bz, j * 5, none⟩) lbz).trans y0
      have m1 := (hBA.cell (p := ⟨bz, j * 5 + 1, none⟩) lbz).trans y1
      have m2 := (hBA.cell (p := ⟨bz, j * 5 + 2, none⟩) lbz).trans y2
      have m3 := (hBA.cell (p := ⟨bz, j * 5 + 3, none⟩) lbz).trans y3
      have m4 := (hBA.cell (p := ⟨bz, j * 5 + 4, none⟩) lbz).trans y4
      have XA1 := Lib.hid (X1_3.out.below hBA)
      have XA3 := Lib.hid (X3_3.out.below hBA)
      have XN := Lib.hid (Bx5.new wr (.int .i64 kx) (.int .i64 axx) (.string tx) (.int .i64 nx) (.slice ox lx cx))
      have hXA := hX.below hBA
      have hZA := hZ.below hBA
      have heq : eqS true (xs ++ zs)[j] xs[j] = true := (eqS_all _ _).2 (List.getElem_append_left hjL)
      have K1 := Lib.hid (fun d os => sameAll_re hZA hXA heq d os)
      have eo' := eo
      subst eo'
      have ez' := ez
      subst ez'
      have HJ := Lib.hid hlt; have HBA := Lib.hid hBA; have HB := Lib.hid hB; have HA := Lib.hid hA
      have HM := Lib.hid (And.intro m0 (And.intro m1 (And.intro m2 (And.intro m3 m4))))
      clear hj hB hlt hjL hjz hBW f0 f1 f2 f3 f4 y0 y1 y2 y3 y4 hX hZ hmz hA hBA hXA hZA heq lbx lbz m0 m1 m2 m3 m4
      go_wp2_with fail
      obtain ⟨m0, m1, m2, m3, m4⟩ := HM.out
      have gXA30 := fun d os => cell_regrown XA3.out.c0 d os
      have gXA31 := fun d os => cell_regrown XA3.out.c1 d os
      have gXA32 := fun d os => cell_regrown XA3.out.c2 d os
      have gXA33 := fun d os => cell_regrown XA3.out.c3 d os
      have gXA34 := fun d os => cell_regrown XA3.out.c4 d os
      have gXN0 := fun d os => cell_regrown XN.out.c0 d os
      have gXN1 := fun d os => cell_regrown XN.out.c1 d os
      have gXN2 := fun d os => cell_regrown XN.out.c2 d os
      have gXN3 := fun d os => cell_regrown XN.out.c3 d os
      have gXN4 := fun d os => cell_regrown XN.out.c4 d os
      have gr0 := fun d os => cell_regrown m0 d os
      have gr1 := fun d os => cell_regrown m1 d os
      have gr2 := fun d os => cell_regrown m2 d os
      have gr3 := fun d os => cell_regrown m3 d os
      have gr4 := fun d os => cell_regrown m4 d os
      refine wp_region_quiet_below (by kernel_rfl) (by kernel_rfl) ?_
      repeat (quiet_step (first | exact K1.out _ _))
      refine wpQuiet_nil ?_
      intro _ hw'
      obtain ⟨⟨dq, osq⟩, hw''⟩ := hw'
      subst hw''
      go_wp2
      go_roundw
      case rel => exact ⟨j + 1, HJ.out, congrArg (Value.int .i64) (ej.trans (Int.natCast_add j 1).symm), Below.chain HBA.out (below_regrown _ dq osq)⟩
      case measure => have := HJ.out; rw [ej]; show l1 - ((j : Int) + 1).toNat < l1 - ((j : Int)).toNat; omega
    · obtain rfl : j = l1 := by omega
      rename World => W1
      have ge : decide ((j : Int) < (j : Int)) = false := by rw [decide_eq_false_iff_not]; omega
      have ge2 : ¬ (j : Int) < (j : Int) := by omega
      have HB1 := Lib.hid hB
      obtain ⟨a10, a11, a12, a13, a14, -, -⟩ := X1_3.out.below hB
      obtain ⟨a20, a21, a22, a23, a24, -, -⟩ := X2_3.out.below hB
      obtain ⟨a30, a31, a32, a33, a34, -, -⟩ := X3_3.out.below hB
      clear hB hlt hj v10 v11 v12 v13 v14 v20 v21 v22 v23 v24 v30 v31 v32 v33 v34
      go_wp2_with fail
      go_loopw [90] (fun iv wr => ∃ i : Nat, i ≤ l2 ∧ iv = .int .i64 (i : Int) ∧ Below W1.heap.size W1 wr) (fun iv _ => l2 - (intOf iv).toNat)
      case atStart => exact ⟨0, Nat.zero_le _, rfl, Below.refl _ _⟩
      case round =>
        obtain ⟨i, hj, rfl, hB⟩ := hrel
        by_cases hlt : i < l2
        · have hjL : i < ys.length := by rw [HNY.out]; exact hlt
          have hjz : (j + i) < (xs ++ zs).length := by rw [List.length_append, HNX.out, ← HL.out, HNY.out]; omega
          have hBW : Below (w3.alloc (Obj.cells #[.int .i64 k3, .int .i64 a3, .string t3, .int .i64 n3, .slice o3 (j + l2) c3] 25)).heap.size (w3.alloc (Obj.cells #[.int .i64 k3, .int .i64 a3, .string t3, .int .i64 n3, .slice o3 (j + l2) c3] 25)) wr := Below.chain HB1.out hB
          obtain ⟨bx, kx, axx, tx, nx, ox, lx, cx, eo, lbx, f0, f1, f2, f3, f4, hX⟩ := RY.out.get i hjL
          obtain ⟨bz, kz2, az, tz, nz, oz, lz, cz, ez, lbz, y0, y1, y2, y3, y4, hZ⟩ := RZ.out.get (j + i) hjz
          have hmz := HMZ.out
          have g0 : (0 : Int) ≤ (i : Int) := by omega
          have g3 : (i : Int) < (l2 : Int) := by omega
          have g4 : (i : Int) < (j : Int) + (l2 : Int) := by omega
          have g5 : (0 : Int) ≤ (j : Int) + (i : Int) := by omega
          have g6 : (j : Int) + (i : Int) < (j : Int) + (l2 : Int) := by omega
          have eT : ((j : Int) + (i : Int)).toNat = j + i := by omega
          have b1 : (j : Int) + (i : Int) < 9223372036854775808 := by omega
          have b2 : (0 : Int) ≤ (i : Int) + 1 := by omega
          have b3 : (i : Int) + 1 < 9223372036854775808 := by omega
          have ej : wrap64 ((i : Int) + 1) = (i : Int) + 1 := (wrapB _ b2 b3).2
          have ei : wrap64 ((j : Int) + (i : Int)) = (j : Int) + (i : Int) := (wrapB _ g5 b1).2
          have eik : IntKind.i64.wrap ((j : Int) + (i : Int)) = (j : Int) + (i : Int) := (wrapB _ g5 b1).1
          clear b1 b2 b3
          have r0 := (hBW.cell (p := ⟨bx, i * 5, none⟩) lbx).trans f0
          have r1 := (hBW.cell (p := ⟨bx, i * 5 + 1, none⟩) lbx).trans f1
          have r2 := (hBW.cell (p := ⟨bx, i * 5 + 2, none⟩) lbx).trans f2
          have r3 := (hBW.cell (p := ⟨bx, i * 5 + 3, none⟩) lbx).trans f3
          have r4 := (hBW.cell (p := ⟨bx, i * 5 + 4, none⟩) lbx).trans f4
          have hA := (Below.refl wr.heap.size wr).alloc (Nat.le_refl _) (Obj.cells #[.int .i64 kx, .int .i64 axx, .string tx, .int .i64 nx, .slice ox lx cx] 25)
          have hBA := Below.chain hBW hA
          have z0 : (wr.alloc (Obj.cells #[.int .i64 kx, .int .i64 axx, .string tx, .int .i64 nx, .slice ox lx cx] 25)).cell? ⟨bz, ((j : Int) + (i : Int)).toNat * 5, none⟩ = some (.int .i64 kz2) := by rw [eT]; exact (hBA.cell (p := ⟨bz, (j + i) * 5, none⟩) lbz).trans y0
          have z1 : (wr.alloc (Obj.cells #[.int .i64 kx, .int .i64 axx, .string tx, .int .i64 nx, .slice ox lx cx] 25)).cell? ⟨bz, ((j : Int) + (i : Int)).toNat * 5 + 1, none⟩ = some (.int .i64 az) := by rw [eT]; exact (hBA.cell (p := ⟨bz, (j + i) * 5 + 1, none⟩) lbz).trans y1
          have z2 : (wr.alloc (Obj.cells #[.int .i64 kx, .int .i64 axx, .string tx, .int .i64 nx, .slice ox lx cx] 25)).cell? ⟨bz, ((j : Int) + (i : Int)).toNat * 5 + 2, none⟩ = some (.string tz) := by rw [eT]; exact (hBA.cell (p := ⟨bz, (j + i) * 5 + 2, none⟩) lbz).trans y2
          have z3 : (wr.alloc (Obj.cells #[.int .i64 kx, .int .i64 axx, .string tx, .int .i64 nx, .slice ox lx cx] 25)).cell? ⟨bz, ((j : Int) + (i : Int)).toNat * 5 + 3, none⟩ = some (.int .i64 nz) := by rw [eT]; exact (hBA.cell (p := ⟨bz, (j + i) * 5 + 3, none⟩) lbz).trans y3
          have z4 : (wr.alloc (Obj.cells #[.int .i64 kx, .int .i64 axx, .string tx, .int .i64 nx, .slice ox lx cx] 25)).cell? ⟨bz, ((j : Int) + (i : Int)).toNat * 5 + 4, none⟩ = some (.slice oz lz cz) := by rw [eT]; exact (hBA.cell (p := ⟨bz, (j + i) * 5 + 4, none⟩) lbz).trans y4
          have XA1 := Lib.hid (X1_3.out.below hBA)
          have XA3 := Lib.hid (X3_3.out.below hBA)
          have XN := Lib.hid (Bx5.new wr (.int .i64 kx) (.int .i64 axx) (.string tx) (.int .i64 nx) (.slice ox lx cx))
          have hXA := hX.below hBA
          have hZA := hZ.below hBA
          have heq : eqS false (xs ++ zs)[j + i] ys[i] = true := by
            have e1 : (xs ++ zs)[j + i] = zs[i]'(by rw [← HL.out]; exact hjL) := by
              rw [List.getElem_append_right (by rw [HNX.out]; exact Nat.le_add_right _ _)]
              congr 1
              rw [HNX.out]; exact Nat.add_sub_cancel_left _ _
            rw [e1]
            exact eq_of_bare (bareL_get HK2.out i hjL _).symm
          have K1 := Lib.hid (fun d os => same_re hZA hXA heq d os)
          have eo' := eo
          subst eo'
          have ez' := ez
          subst ez'
          have HJ := Lib.hid hlt; have HBA := Lib.hid hBA; have HB := Lib.hid hB; have HA := Lib.hid hA
          have HM := Lib.hid (And.intro z0 (And.intro z1 (And.intro z2 (And.intro z3 z4))))
          clear hj hB hlt hjL hjz hBW f0 f1 f2 f3 f4 y0 y1 y2 y3 y4 hX hZ hmz hA hBA hXA hZA heq lbx lbz z0 z1 z2 z3 z4 eT
          go_wp2_with fail
          obtain ⟨m0, m1, m2, m3, m4⟩ := HM.out
          have gXA30 := fun d os => cell_regrown XA3.out.c0 d os
          have gXA31 := fun d os => cell_regrown XA3.out.c1 d os
          have gXA32 := fun d os => cell_regrown XA3.out.c2 d os
          have gXA33 := fun d os => cell_regrown XA3.out.c3 d os
          have gXA34 := fun d os => cell_regrown XA3.out.c4 d os
          have gXN0 := fun d os => cell_regrown XN.out.c0 d os
          have gXN1 := fun d os => cell_regrown XN.out.c1 d os
          have gXN2 := fun d os => cell_regrown XN.out.c2 d os
          have gXN3 := fun d os => cell_regrown XN.out.c3 d os
          have gXN4 := fun d os => cell_regrown XN.out.c4 d os
          have gXA10 := fun d os => cell_regrown XA1.out.c0 d os
          have gXA11 := fun d os => cell_regrown XA1.out.c1 d os
          have gXA12 := fun d os => cell_regrown XA1.out.c2 d os
          have gXA13 := fun d os => cell_regrown XA1.out.c3 d os
          have gXA14 := fun d os => cell_regrown XA1.out.c4 d os
          have gr0 := fun d os => cell_regrown m0 d os
          have gr1 := fun d os => cell_regrown m1 d os
          have gr2 := fun d os => cell_regrown m2 d os
          have gr3 := fun d os => cell_regrown m3 d os
          have gr4 := fun d os => cell_regrown m4 d os
          refine wp_region_quiet_below (by kernel_rfl) (by kernel_rfl) ?_
          repeat (quiet_step (first | exact K1.out _ _))
          refine wpQuiet_nil ?_
          intro _ hw'
          obtain ⟨⟨dq, osq⟩, hw''⟩ := hw'
          subst hw''
          go_wp2
          go_roundw
          case rel => exact ⟨i + 1, HJ.out, congrArg (Value.int .i64) (ej.trans (Int.natCast_add i 1).symm), Below.chain HB.out (Below.chain HA.out (below_regrown _ dq osq))⟩
          case measure =>
            have := HJ.out
            rw [ej]
            clear ej ei eik
            show l2 - ((i : Int) + 1).toNat < l2 - ((i : Int)).toNat; omega
        · obtain rfl : i = l2 := by omega
          have gf : decide ((i : Int) < (i : Int)) = false := by rw [decide_eq_false_iff_not]; omega
          have gf2 : ¬ (i : Int) < (i : Int) := by omega
          have BF := Lib.hid (Below.chain B3.out (Below.chain HB1.out hB))
          clear hB hlt hj
          go_wp2_with (go_at_call 12; refine (HE.out.awake BF.out).mono ?_; rintro e w9 ⟨rfl, hb⟩; refine Hid.out ?_)
          have B9 := Lib.hid (Below.chain BF.out hb)
          clear hb
          refine Lib.hid ?_
          go_wp2
          go_ret
          exact ⟨rfl, B9.out⟩

theorem ljoins_walk (a b : ByteArray) (w : World) (h : Env w) :
    Calls Tryz.prog 7 #[.string a, .string b] w fun e w' => e = .returned (.bool true) ∧ Below w.heap.size w w' := by
  cases g1 : decide ((1000 : Int) < (a.size : Int)) with
  | true => exact ljo_big1 a b g1 w h
  | false =>
    cases g2 : decide ((1000 : Int) < (b.size : Int)) with
    | true => exact ljo_big2 a b g1 g2 w h
    | false =>
      rcases pAns_cases 0 a with ⟨x, hp⟩ | ⟨a1, c1, hp⟩
      · rcases pAns_cases 0 b with ⟨y, hq⟩ | ⟨a2, c2, hq⟩
        · exact ljo_good a b g1 g2 x y hp hq w h
        · exact ljo_bad3 a b g1 g2 x hp a2 c2 hq w h
      · rcases pAns_cases 0 b with ⟨y, hq⟩ | ⟨a2, c2, hq⟩
        · exact ljo_bad1 a b g1 g2 a1 c1 hp y hq w h
        · exact ljo_bad2 a b g1 g2 a1 c1 hp a2 c2 hq w h
end Go.Proofs.YtdibcllakkjegaaGreatDoor

