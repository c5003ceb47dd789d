import Derived.Test.YtjobmkdaaionlaaGreatDoorCut38
import Derived.Test.YtjobmkdaaionlaaGreatDoorCut34
import Derived.Test.YtjobmkdaaionlaaGreatDoorCut37

set_option linter.unusedVariables false
/-
  LinearMakes.
-/
set_option linter.unusedSimpArgs false
namespace Go.Proofs.YtjobmkdaaionlaaGreatDoor
open Go Go.Proofs Go.RowKit

theorem exprO_len (l : List ByteArray) (k : ByteArray) : (exprO l k).l.length ≤ l.length := by
  unfold exprO; split
  · exact Nat.le_refl _
  · exact Nat.zero_le _
/-- An outcome in a box. -/
structure OB (W : World) (p : Nat) (ao : Option Addr) (c : Nat) (o : LOut) : Prop where
  x : Bx2 W p (.slice ao o.l.length c) (.string o.k)
  r : SRow W ao c o.l
theorem OB.mono {W W' : World} {p : Nat} {ao : Option Addr} {c : Nat} {o : LOut} (h : OB W p ao c o) (g : Below W.heap.size W W') : OB W' p ao c o := ⟨h.x.mono g, h.r.mono g⟩
theorem OB.new {W : World} {Bd : Nat} {ao : Option Addr} {c : Nat} {o : LOut} (h : RowB Bd W ao c o.l) (T : TypeId) : OB (W.alloc (Obj.cells #[.slice ao o.l.length c, .string o.k] T)) W.heap.size ao c o :=
  ⟨Bx2.new W _ _ T, h.1.mono ((Below.refl _ _).alloc (Nat.le_refl _) _)⟩
theorem sameO (o : LOut) (ao bo : Option Addr) (c d : Nat) (p q : Nat) (w : World) (hn : o.l.length ≤ 1000000) (ha : OB w p ao c o) (hb : OB w q bo d o) :
    Calls Tryz.prog 18 #[.agg #[.slice ao o.l.length c, .string o.k], .agg #[.slice bo o.l.length d, .string o.k]] w (Bret (.bool true) w) := sameLin o.l o.k ao bo c d w ha.r hb.r hn

end Go.Proofs.YtjobmkdaaionlaaGreatDoor

/-
  The law LinearSubstitutes.
-/
set_option linter.unusedSimpArgs false
namespace Go.Proofs.YtjobmkdaaionlaaGreatDoor
open Go Go.Proofs Go.RowKit

theorem subAll_len (l : List ByteArray) (k : ByteArray) (i : Int) (m : List ByteArray) (k2 : ByteArray) (hl : l.length ≤ 1000) : (subAll l k i m k2).l.length ≤ 1000000 := by
  unfold subAll subO
  split
  · split
    · split
      · exact Nat.zero_le _
      · refine Nat.le_trans (exprO_len _ _) ?_
        simp
        omega
    · exact Nat.zero_le _
  · exact Nat.zero_le _

set_option maxRecDepth 20000 in
set_option maxHeartbeats 4000000 in
theorem lsubs_walk (l : List ByteArray) (k : ByteArray) (ao : Option Addr) (c : Nat) (i : Int) (m : List ByteArray) (k2 : ByteArray) (bo : Option Addr) (d : Nat) (w : World)
    (hr : SRow w ao c l) (_hz : ∀ s ∈ l ++ [k], s.size ≤ 9223372036854775807) (hn : l.length ≤ 9223372036854775807) (_hi1 : -9223372036854775808 ≤ i) (_hi2 : i ≤ 9223372036854775807) (hr2 : SRow w bo d m) (_hz2 : ∀ s ∈ m ++ [k2], s.size ≤ 9223372036854775807) (hn2 : m.length ≤ 9223372036854775807)
    (htab : Lib.TabIs Tryz.prog w "internal/strconv.uint64pow10" .u64 Lib.pow10Tab) :
    Calls Tryz.prog 6 #[.agg #[.slice ao l.length c, .string k], .int .i64 i, .agg #[.slice bo m.length d, .string k2]] w fun e w' => e = .returned (.bool true) ∧ Below w.heap.size w w' := by
  have hT := Lib.tabBelow_of_tabIs htab
  have CA : ∀ W : World, Below w.heap.size w W → Calls Tryz.prog 13 #[] W (Bret (.bool true) W) := fun W hW => awake03 W (hT.on hW).here
  have CF := fun (W : World) (hW : Below w.heap.size w W) => refFew l k ao c W (hr.mono hW) (by omega)
  have CF2 := fun (W : World) (hW : Below w.heap.size w W) => refFew m k2 bo d W (hr2.mono hW) (by omega)
  obtain ⟨X, Y, B⟩ := entry2 w (.slice ao l.length c) (.string k) (.slice bo m.length d) (.string k2) 27
  have x0 := X.c0; have x1 := X.c1; have x2 := X.lt; have y0 := Y.c0; have y1 := Y.c1; have y2 := Y.lt
  cases hf : fewL l k
  · rw [hf] at CF
    generalize l.length = n at *
    generalize m.length = n2 at *
    have KA := Lib.hid CA; have KF := Lib.hid CF
    clear CA CF CF2 hT htab hr hr2 _hz _hz2 hf
    go_enter Tryz.func6, Tryz.ntmps6
    go_wp2_with (go_at_call 19; refine (KF.out _ B).mono ?_; rintro e w0 ⟨rfl, hb0⟩; refine Hid.out ?_)
    have B0 := Below.chain B hb0; clear hb0 B
    refine Lib.hid ?_
    go_wp2_with (go_at_call 13; refine (KA.out _ B0).mono ?_; rintro e w1 ⟨rfl, hb1⟩; refine Hid.out ?_)
    have B1 := Below.chain B0 hb1; clear hb1 B0
    refine Lib.hid ?_
    go_wp2
    refine bodyPost_ret (v := .bool true) (by simp [results, Tryz.results6, go_sem]) rfl ?_
    exact ⟨rfl, B1⟩
  rw [hf] at CF
  cases hf2 : fewL m k2
  · rw [hf2] at CF2
    generalize l.length = n at *
    generalize m.length = n2 at *
    have KA := Lib.hid CA; have KF := Lib.hid CF; have KF2 := Lib.hid CF2
    clear CA CF CF2 hT htab hr hr2 _hz _hz2 hf hf2
    go_enter Tryz.func6, Tryz.ntmps6
    go_wp2_with (go_at_call 19; refine (KF.out _ B).mono ?_; rintro e w0 ⟨rfl, hb0⟩; refine Hid.out ?_)
    have B0 := Below.chain B hb0; have Y0 := Y.mono hb0
    clear hb0 B X Y x0 x1 x2 y0 y1 y2
    have y0 := Y0.c0; have y1 := Y0.c1; have y2 := Y0.lt
    refine Lib.hid ?_
    go_wp2_with (go_at_call 19; refine (KF2.out _ B0).mono ?_; rintro e w5 ⟨rfl, hb5⟩; refine Hid.out ?_)
    have B5 := Below.chain B0 hb5; clear hb5 B0
    refine Lib.hid ?_
    go_wp2_with (go_at_call 13; refine (KA.out _ B5).mono ?_; rintro e w1 ⟨rfl, hb1⟩; refine Hid.out ?_)
    have B1 := Below.chain B5 hb1; clear hb1 B5
    refine Lib.hid ?_
    go_wp2
    refine bodyPost_ret (v := .bool true) (by simp [results, Tryz.results6, go_sem]) rfl ?_
    exact ⟨rfl, B1⟩
  rw [hf2] at CF2
  obtain ⟨f1, f2⟩ := fewL_spec hf
  obtain ⟨f3, f4⟩ := fewL_spec hf2
  have C1 := fun (W : World) (hW : Below w.heap.size w W) => linSub l k ao c i m k2 bo d W (hr.mono hW) (fun s hs => Nat.le_trans (f2 s hs) (by decide)) (by omega) (hr2.mono hW) (fun s hs => Nat.le_trans (f4 s hs) (by decide)) (by omega) (hT.on hW).here
  have C2 := fun (W : World) (hW : Below w.heap.size w W) => refSubstitute l k ao c i m k2 bo d W (hr.mono hW) (fun s hs => Nat.le_trans (f2 s hs) (by decide)) (by omega) (hr2.mono hW) (fun s hs => Nat.le_trans (f4 s hs) (by decide)) (by omega)
  have L1 := subAll_len l k i m k2 (by omega)
  generalize subAll l k i m k2 = O1 at *
  clear f1 f2 f3 f4 hf hf2
  generalize l.length = n at *
  generalize m.length = n2 at *
  have KA := Lib.hid CA; have KF := Lib.hid CF; have KF2 := Lib.hid CF2; have K1 := Lib.hid C1; have K2 := Lib.hid C2; have KL1 := Lib.hid L1
  clear CA CF CF2 C1 C2 L1 hT htab hr hr2 _hz _hz2
  go_enter Tryz.func6, Tryz.ntmps6
  go_wp2_with (go_at_call 19; refine (KF.out _ B).mono ?_; rintro e w0 ⟨rfl, hb0⟩; refine Hid.out ?_)
  have B0 := Below.chain B hb0; have Y0 := Y.mono hb0; have X0 := X.mono hb0
  clear hb0 B X Y x0 x1 x2 y0 y1 y2
  have y0 := Y0.c0; have y1 := Y0.c1; have y2 := Y0.lt
  refine Lib.hid ?_
  go_wp2_with (go_at_call 19; refine (KF2.out _ B0).mono ?_; rintro e w5 ⟨rfl, hb5⟩; refine Hid.out ?_)
  have B5 := Below.chain B0 hb5; have Y5 := Y0.mono hb5; have X5 := X0.mono hb5
  clear hb5 B0 X0 Y0 y0 y1 y2
  have x0 := X5.c0; have x1 := X5.c1; have x2 := X5.lt; have y0 := Y5.c0; have y1 := Y5.c1; have y2 := Y5.lt
  refine Lib.hid ?_
  go_wp2_with (go_at_call 34; refine (K1.out _ B5).mono ?_; rintro e w1 ⟨a1, c1, rfl, r1, hb1⟩; refine Hid.out ?_)
  have P1 := OB.new r1 27
  have N1 := nb hb1 (Obj.cells #[.slice a1 O1.l.length c1, .string O1.k] 27)
  have B1 := Below.chain B5 N1; have X1 := X5.mono N1; have Y1 := Y5.mono N1
  clear r1 hb1 B5 X5 Y5 x0 x1 x2 y0 y1 y2 N1
  have x0 := X1.c0; have x1 := X1.c1; have x2 := X1.lt; have y0 := Y1.c0; have y1 := Y1.c1; have y2 := Y1.lt
  refine Lib.hid ?_
  go_wp2_with (go_at_call 35; refine (K2.out _ B1).mono ?_; rintro e w2 ⟨a2, c2, rfl, r2, hb2⟩; refine Hid.out ?_)
  have Q1 := P1.mono (nb hb2 (Obj.cells #[.slice a2 O1.l.length c2, .string O1.k] 27))
  have Q2 := OB.new r2 27
  have B2 := Below.chain B1 (nb hb2 (Obj.cells #[.slice a2 O1.l.length c2, .string O1.k] 27))
  clear r2 hb2 P1 B1 X1 Y1 x0 x1 x2 y0 y1 y2
  have x0 := Q1.x.c0; have x1 := Q1.x.c1; have x2 := Q1.x.lt; have y0 := Q2.x.c0; have y1 := Q2.x.c1; have y2 := Q2.x.lt
  have S1 := sameO O1 a1 a2 c1 c2 _ _ _ KL1.out Q1 Q2
  have KS1 := Lib.hid S1; clear S1
  refine Lib.hid ?_
  go_wp2_with (go_at_call 18; refine KS1.out.mono ?_; rintro e w6 ⟨rfl, hb6⟩; refine Hid.out ?_)
  have B6 := Below.chain B2 hb6
  clear x0 x1 x2 y0 y1 y2 Q1 Q2 B2 hb6
  refine Lib.hid ?_
  go_wp2_with (go_at_call 13; refine (KA.out _ B6).mono ?_; rintro e w7 ⟨rfl, hb7⟩; refine Hid.out ?_)
  have B7 := Below.chain B6 hb7; clear hb7 B6
  refine Lib.hid ?_
  go_wp2
  refine bodyPost_ret (v := .bool true) (by simp [results, Tryz.results6, go_sem]) rfl ?_
  exact ⟨rfl, B7⟩
end Go.Proofs.YtjobmkdaaionlaaGreatDoor
