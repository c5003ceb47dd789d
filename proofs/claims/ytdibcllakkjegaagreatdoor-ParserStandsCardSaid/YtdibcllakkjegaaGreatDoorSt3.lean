import Derived.Test.YtdibcllakkjegaaGreatDoorSt2

set_option linter.unusedVariables false
/-
  The law ParserStands.
-/
set_option linter.unusedSimpArgs false
set_option linter.unusedVariables false
namespace Go.Proofs.YtdibcllakkjegaaGreatDoor
open Go Go.Proofs Go.RowKit Go.Sort

theorem zero_at (lo : Nat) (W : World) : synAt lo W (.mk 0 0 ⟨#[]⟩ 0 []) (.agg #[.int .i64 0, .int .i64 0, .string ⟨#[]⟩, .int .i64 0, .slice none 0 0]) := synAt_mk.mpr ⟨_, rfl, .inl ⟨rfl, rfl⟩⟩
set_option maxRecDepth 20000 in
set_option maxHeartbeats 4000000 in
theorem lst_big (s : ByteArray) (k : Nat) (hk : k < 256) (g1 : decide ((1500 : Int) < (s.size : Int)) = true) (w : World) (h : Env w) :
    Calls Tryz.prog 8 #[.string s, .int .u8 (k : Int)] w fun e w' => e = .returned (.bool true) ∧ Below w.heap.size w w' := by
  have HE := Lib.hid h; clear h
  go_enter Tryz.func8, Tryz.ntmps8
  go_wp2_with (go_at_call 12; refine (HE.out.awake (Below.refl _ _)).mono ?_; rintro e w1 ⟨rfl, hb⟩; refine Hid.out ?_)
  have B1 := Lib.hid (Below.chain (Below.refl _ _) hb)
  clear hb
  refine Lib.hid ?_
  go_wp2
  go_ret
  exact ⟨rfl, B1.out⟩
set_option maxRecDepth 20000 in
set_option maxHeartbeats 4000000 in
theorem lst_bad (s : ByteArray) (k : Nat) (hk : k < 256) (g1 : decide ((1500 : Int) < (s.size : Int)) = false) (a1 : Int) (c1 : Nat) (hp : pAns (k % 4) s = .error (a1, c1)) (w : World) (h : Env w) :
    Calls Tryz.prog 8 #[.string s, .int .u8 (k : Int)] w fun e w' => e = .returned (.bool true) ∧ Below w.heap.size w w' := by
  have ha0 : (0 : Int) ≤ a1 := by
    rcases err_at hp with q | q
    · exact q.1
    · rw [decide_eq_false_iff_not] at g1; omega
  have ha1 : a1 ≤ (s.size : Int) := by
    rcases err_at hp with q | q
    · exact q.2
    · rw [decide_eq_false_iff_not] at g1; omega
  have ga0 : decide ((0 : Int) ≤ a1) = true := decide_eq_true ha0
  have ga1 : decide (a1 ≤ (s.size : Int)) = true := decide_eq_true ha1
  have HE := Lib.hid h; have HP := Lib.hid hp; have HK := Lib.hid hk; clear h hp hk
  go_enter Tryz.func8, Tryz.ntmps8
  go_wp2_with (go_at_call 16; refine (ent_code HP.out (HE.out.part (Below.refl _ _) _ _ HK.out)).mono ?_; rintro e w1 ⟨hc1, rfl, hb⟩; refine Hid.out ?_)
  have hA : Below w1.heap.size w1 (w1.alloc (Obj.cells #[.int .i64 0, .int .i64 0, .string ⟨#[]⟩, .int .i64 0, .slice none 0 0] 25)) := (Below.refl _ _).alloc (Nat.le_refl _) _
  have B1 := Lib.hid (Below.chain (Below.refl _ _) (Below.chain hb hA))
  have X1_1 := Lib.hid (Bx5.new w1 (.int .i64 0) (.int .i64 0) (.string ⟨#[]⟩) (.int .i64 0) (.slice none 0 0))
  clear hA hb
  obtain ⟨te1, te1'⟩ := err_ne hc1
  refine Lib.hid ?_
  have K1 := Lib.hid (same_any9 _ _ _ _ _ _ _ (zero_at 0 (w1.alloc (Obj.cells #[.int .i64 0, .int .i64 0, .string ⟨#[]⟩, .int .i64 0, .slice none 0 0] 25))) (zero_at 0 (w1.alloc (Obj.cells #[.int .i64 0, .int .i64 0, .string ⟨#[]⟩, .int .i64 0, .slice none 0 0] 25))))
  obtain ⟨d0, d1, d2, d3, d4, -, -⟩ := X1_1.out
  clear X1_1
  go_wp2_with (go_at_call 23; refine K1.out.mono ?_; rintro e w2 ⟨rfl, hb⟩; refine Hid.out ?_)
  have B2 := Lib.hid (Below.chain B1.out hb)
  clear hb d0 d1 d2 d3 d4
  have hz9 : eqS false (.mk 0 0 ⟨#[]⟩ 0 []) (.mk 0 0 ⟨#[]⟩ 0 []) = true := eq_of_bare rfl
  rw [hz9]
  clear hz9
  refine Lib.hid ?_
  go_wp2_with (go_at_call 12; refine (HE.out.awake B2.out).mono ?_; rintro e w3 ⟨rfl, hb⟩; refine Hid.out ?_)
  have B3 := Lib.hid (Below.chain B2.out hb)
  clear hb
  refine Lib.hid ?_
  go_wp2
  go_ret
  exact ⟨rfl, B3.out⟩
set_option maxRecDepth 20000 in
set_option maxHeartbeats 4000000 in
theorem lst_good (s : ByteArray) (k : Nat) (hk : k < 256) (g1 : decide ((1500 : Int) < (s.size : Int)) = false) (x : Syn) (hp : pAns (k % 4) s = .ok x) (w : World) (h : Env w) :
    Calls Tryz.prog 8 #[.string s, .int .u8 (k : Int)] w fun e w' => e = .returned (.bool true) ∧ Below w.heap.size w w' := by
  have hz : s.size ≤ 1500 := by
    rw [decide_eq_false_iff_not] at g1
    omega
  obtain ⟨m1, m2⟩ := stands_math hz hp
  have HE := Lib.hid h; have HP := Lib.hid hp; have HK := Lib.hid hk; have HM := Lib.hid m2; have HZ := Lib.hid hz; have HM1 := Lib.hid m1; clear h hp hk m2 hz
  go_enter Tryz.func8, Tryz.ntmps8
  go_wp2_with (go_at_call 16; refine (ent_ok HP.out (HE.out.part (Below.refl _ _) _ _ HK.out)).mono ?_; rintro e w1 ⟨k1, a1, t1, n1, o1, l1, c1, q1, hq1, rfl, hb, hx⟩; refine Hid.out ?_)
  have hA : Below w1.heap.size w1 (w1.alloc (Obj.cells #[.int .i64 k1, .int .i64 a1, .string t1, .int .i64 n1, .slice o1 l1 c1] 25)) := (Below.refl _ _).alloc (Nat.le_refl _) _
  have B1 := Lib.hid (Below.chain (Below.refl _ _) (Below.chain hb hA))
  have X1_1 := Lib.hid (Bx5.new w1 (.int .i64 k1) (.int .i64 a1) (.string t1) (.int .i64 n1) (.slice o1 l1 c1))
  have S1_1 := Lib.hid (hx.below hA)
  clear hA hb hx
  refine Lib.hid ?_
  subst hq1
  have K1 := size_any _ _ _ _ _ (Nat.lt_succ_self _) (by have := HM1.out; omega) S1_1.out
  have gz : decide ((sz (Syn.mk k1 a1 t1 n1 q1) : Int) < 20000) = true := decide_eq_true (by have := HM1.out; omega)
  have gz2 : decide (sz (Syn.mk k1 a1 t1 n1 q1) < 20000) = true := decide_eq_true HM1.out
  generalize sz (Syn.mk k1 a1 t1 n1 q1) = z at *
  have gz3 : (z : Int) < 20000 := of_decide_eq_true gz
  have K1 := Lib.hid K1
  clear m1 HM1
  obtain ⟨d0, d1, d2, d3, d4, -, -⟩ := X1_1.out
  go_wp2_with (go_at_call 24; refine K1.out.mono ?_; rintro e w2 ⟨rfl, hb⟩; refine Hid.out ?_)
  have B2 := Lib.hid (Below.chain B1.out hb)
  have K2 := Lib.hid (stands_any s HZ.out _ _ _ _ _ (Nat.lt_succ_self _) HM.out (S1_1.out.below hb))
  obtain ⟨e0, e1, e2, e3, e4, -, -⟩ := X1_1.out.below hb
  clear hb d0 d1 d2 d3 d4
  refine Lib.hid ?_
  go_wp2_with (go_at_call 25; refine K2.out.mono ?_; rintro e w3 ⟨rfl, hb⟩; refine Hid.out ?_)
  have B3 := Lib.hid (Below.chain B2.out hb)
  clear hb e0 e1 e2 e3 e4
  refine Lib.hid ?_
  go_wp2_with (go_at_call 12; refine (HE.out.awake B3.out).mono ?_; rintro e w4 ⟨rfl, hb⟩; refine Hid.out ?_)
  have B4 := Lib.hid (Below.chain B3.out hb)
  clear hb
  refine Lib.hid ?_
  go_wp2
  go_ret
  exact ⟨rfl, B4.out⟩
theorem lstands_walk9 (s : ByteArray) (k : Nat) (hk : k < 256) (w : World) (h : Env w) :
    Calls Tryz.prog 8 #[.string s, .int .u8 (k : Int)] w fun e w' => e = .returned (.bool true) ∧ Below w.heap.size w w' := by
  cases g1 : decide ((1500 : Int) < (s.size : Int)) with
  | true => exact lst_big s k hk g1 w h
  | false =>
    rcases pAns_cases (k % 4) s with ⟨x, hp⟩ | ⟨a1, c1, hp⟩
    · exact lst_good s k hk g1 x hp w h
    · exact lst_bad s k hk g1 a1 c1 hp w h
end Go.Proofs.YtdibcllakkjegaaGreatDoor

