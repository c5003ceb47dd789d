import Derived.Test.YtjobmkdaaionlaaGreatDoorCut34
import Derived.Test.YtjobmkdaaionlaaGreatDoorCut35

set_option linter.unusedVariables false
/-
  LinearMakes.
-/
set_option linter.unusedSimpArgs false
namespace Go.Proofs.YtjobmkdaaionlaaGreatDoor
open Go Go.Proofs Go.RowKit

theorem exprO_len (l : List ByteArray) (k : ByteArray) : (exprO l k).l.length ≤ l.length := by
  unfold exprO; split
  · exact Nat.le_refl _
  · exact Nat.zero_le _
theorem constO_len (n : Int) (x : ByteArray) : (constO n x).l.length ≤ 1000000 := by
  unfold constO sizeB
  split
  · rename_i h
    simp at h
    split
    · refine Nat.le_trans (exprO_len _ _) ?_; simp; omega
    · exact Nat.zero_le _
  · exact Nat.zero_le _
theorem varO_len (n i : Int) : (varO n i).l.length ≤ 1000000 := by
  unfold varO sizeB
  split
  · rename_i h
    simp at h
    split
    · refine Nat.le_trans (exprO_len _ _) ?_; simp; omega
    · exact Nat.zero_le _
  · exact Nat.zero_le _

/-- An outcome in a box. -/
structure OB (W : World) (p : Nat) (ao : Option Addr) (c : Nat) (o : LOut) : Prop where
  x : Bx2 W p (.slice ao o.l.length c) (.string o.k)
  r : SRow W ao c o.l
theorem OB.mono {W W' : World} {p : Nat} {ao : Option Addr} {c : Nat} {o : LOut} (h : OB W p ao c o) (g : Below W.heap.size W W') : OB W' p ao c o := ⟨h.x.mono g, h.r.mono g⟩
theorem OB.new {W : World} {Bd : Nat} {ao : Option Addr} {c : Nat} {o : LOut} (h : RowB Bd W ao c o.l) (T : TypeId) : OB (W.alloc (Obj.cells #[.slice ao o.l.length c, .string o.k] T)) W.heap.size ao c o :=
  ⟨Bx2.new W _ _ T, h.1.mono ((Below.refl _ _).alloc (Nat.le_refl _) _)⟩
theorem sameO (o : LOut) (ao bo : Option Addr) (c d : Nat) (p q : Nat) (w : World) (hn : o.l.length ≤ 1000000) (ha : OB w p ao c o) (hb : OB w q bo d o) :
    Calls Tryz.prog 18 #[.agg #[.slice ao o.l.length c, .string o.k], .agg #[.slice bo o.l.length d, .string o.k]] w (Bret (.bool true) w) := sameLin o.l o.k ao bo c d w ha.r hb.r hn

set_option maxHeartbeats 4000000 in
theorem lmakes_walk (n i : Int) (x : ByteArray) (w : World) (_hn1 : -9223372036854775808 ≤ n) (_hn2 : n ≤ 9223372036854775807) (_hi1 : -9223372036854775808 ≤ i) (_hi2 : i ≤ 9223372036854775807) (_hx : x.size ≤ 9223372036854775807)
    (htab : Lib.TabIs Tryz.prog w "internal/strconv.uint64pow10" .u64 Lib.pow10Tab) :
    Calls Tryz.prog 3 #[.int .i64 n, .int .i64 i, .string x] w fun e w' => e = .returned (.bool true) ∧ Below w.heap.size w w' := by
  have hT := Lib.tabBelow_of_tabIs htab
  have CA : ∀ W : World, Below w.heap.size w W → Calls Tryz.prog 13 #[] W (Bret (.bool true) W) := fun W hW => awake03 W (hT.on hW).here
  have CF := fun (W : World) => fewText x W
  by_cases h : x.size ≤ 450
  · rw [show fewT x = true by unfold fewT; simp [h]] at CF
    have C1 : ∀ W : World, Below w.heap.size w W → Calls Tryz.prog 14 #[.int .i64 n, .string x] W (LinRet W.heap.size (constO n x) W) := fun W hW => linConstant n x W (by omega) (hT.on hW).here
    have C2 : ∀ W : World, Calls Tryz.prog 15 #[.int .i64 n, .string x] W (LinRet W.heap.size (constO n x) W) := fun W => refConstant n x W (by omega)
    have C3 : ∀ W : World, Calls Tryz.prog 16 #[.int .i64 n, .int .i64 i] W (LinRet W.heap.size (varO n i) W) := fun W => linVariable n i W
    have C4 : ∀ W : World, Calls Tryz.prog 17 #[.int .i64 n, .int .i64 i] W (LinRet W.heap.size (varO n i) W) := fun W => refVariable n i W
    have L1 := constO_len n x
    have L2 := varO_len n i
    generalize constO n x = O1 at *
    generalize varO n i = O2 at *
    have KA := Lib.hid CA; have KF := Lib.hid CF; have K1 := Lib.hid C1; have K2 := Lib.hid C2; have K3 := Lib.hid C3; have K4 := Lib.hid C4; have KL1 := Lib.hid L1; have KL2 := Lib.hid L2
    clear CA CF C1 C2 C3 C4 L1 L2 hT htab h
    go_enter Tryz.func3, Tryz.ntmps3
    go_wp2_with (go_at_call 12; refine (KF.out _).mono ?_; rintro e w0 ⟨rfl, rfl⟩; refine Hid.out ?_)
    refine Lib.hid ?_
    go_wp2_with (go_at_call 14; refine (K1.out _ (Below.refl _ _)).mono ?_; rintro e w1 ⟨a1, c1, rfl, r1, hb1⟩; refine Hid.out ?_)
    have P1 := OB.new r1 27
    have B1 := nb hb1 (Obj.cells #[.slice a1 O1.l.length c1, .string O1.k] 27)
    clear r1 hb1
    refine Lib.hid ?_
    go_wp2_with (go_at_call 15; refine (K2.out _).mono ?_; rintro e w2 ⟨a2, c2, rfl, r2, hb2⟩; refine Hid.out ?_)
    have P1' := P1.mono (nb hb2 (Obj.cells #[.slice a2 O1.l.length c2, .string O1.k] 27))
    have P2 := OB.new r2 27
    have B2 := Below.chain B1 (nb hb2 (Obj.cells #[.slice a2 O1.l.length c2, .string O1.k] 27))
    clear r2 hb2 P1 B1
    refine Lib.hid ?_
    go_wp2_with (go_at_call 16; refine (K3.out _).mono ?_; rintro e w3 ⟨a3, c3, rfl, r3, hb3⟩; refine Hid.out ?_)
    have N3 := nb hb3 (Obj.cells #[.slice a3 O2.l.length c3, .string O2.k] 27)
    have P1 := P1'.mono N3; have P2' := P2.mono N3
    have P3 := OB.new r3 27
    have B3 := Below.chain B2 N3
    clear r3 hb3 P1' P2 B2 N3
    refine Lib.hid ?_
    go_wp2_with (go_at_call 17; refine (K4.out _).mono ?_; rintro e w4 ⟨a4, c4, rfl, r4, hb4⟩; refine Hid.out ?_)
    have N4 := nb hb4 (Obj.cells #[.slice a4 O2.l.length c4, .string O2.k] 27)
    have Q1 := P1.mono N4; have Q2 := P2'.mono N4; have Q3 := P3.mono N4
    have Q4 := OB.new r4 27
    have B4 := Below.chain B3 N4
    clear r4 hb4 P1 P2' P3 B3 N4
    have x0 := Q1.x.c0; have x1 := Q1.x.c1; have x2 := Q1.x.lt; have y0 := Q2.x.c0; have y1 := Q2.x.c1; have y2 := Q2.x.lt
    have S1 := sameO O1 a1 a2 c1 c2 _ _ _ KL1.out Q1 Q2
    have KS1 := Lib.hid S1; clear S1
    refine Lib.hid ?_
    go_wp2_with (go_at_call 18; refine KS1.out.mono ?_; rintro e w5 ⟨rfl, hb5⟩; refine Hid.out ?_)
    have R3 := Q3.mono hb5; have R4 := Q4.mono hb5; have B5 := Below.chain B4 hb5
    clear x0 x1 x2 y0 y1 y2 Q1 Q2 Q3 Q4 B4 hb5
    have x0 := R3.x.c0; have x1 := R3.x.c1; have x2 := R3.x.lt; have y0 := R4.x.c0; have y1 := R4.x.c1; have y2 := R4.x.lt
    have S2 := sameO O2 a3 a4 c3 c4 _ _ _ KL2.out R3 R4
    have KS2 := Lib.hid S2; clear S2
    refine Lib.hid ?_
    go_wp2_with (go_at_call 18; refine KS2.out.mono ?_; rintro e w6 ⟨rfl, hb6⟩; refine Hid.out ?_)
    have B6 := Below.chain B5 hb6
    clear x0 x1 x2 y0 y1 y2 R3 R4 B5 hb6
    refine Lib.hid ?_
    go_wp2_with (go_at_call 13; refine (KA.out _ B6).mono ?_; rintro e w7 ⟨rfl, hb7⟩; refine Hid.out ?_)
    have B7 := Below.chain B6 hb7; clear hb7 B6
    refine Lib.hid ?_
    go_wp2
    refine bodyPost_ret (v := .bool true) (by simp [results, Tryz.results3, go_sem]) rfl ?_
    exact ⟨rfl, B7⟩
  · rw [show fewT x = false by unfold fewT; simp [h]] at CF
    have KA := Lib.hid CA; have KF := Lib.hid CF
    clear CA CF hT htab
    go_enter Tryz.func3, Tryz.ntmps3
    go_wp2_with (go_at_call 12; refine (KF.out _).mono ?_; rintro e w0 ⟨rfl, rfl⟩; refine Hid.out ?_)
    refine Lib.hid ?_
    go_wp2_with (go_at_call 13; refine (KA.out _ (Below.refl _ _)).mono ?_; rintro e w1 ⟨rfl, hb1⟩; refine Hid.out ?_)
    refine Lib.hid ?_
    go_wp2
    refine bodyPost_ret (v := .bool true) (by simp [results, Tryz.results3, go_sem]) rfl ?_
    exact ⟨rfl, hb1⟩
end Go.Proofs.YtjobmkdaaionlaaGreatDoor
