import Derived.Test.YtjobmkdaaionlaaGreatDoorCut35
import Derived.Test.YtjobmkdaaionlaaGreatDoorRn1
import Derived.Test.YtjobmkdaaionlaaGreatDoorCut36
import Derived.Test.YtjobmkdaaionlaaGreatDoorCut37
import Derived.Test.YtjobmkdaaionlaaGreatDoorRn2

set_option linter.unusedVariables false
/-
  The law LinearRenames.
-/
set_option linter.unusedSimpArgs false
namespace Go.Proofs.YtjobmkdaaionlaaGreatDoor
open Go Go.Proofs Go.RowKit

theorem renO_len (l : List ByteArray) (k : ByteArray) (ts : List Int) (n : Int) : (renO l k ts n).l.length ≤ 1200000 := by
  unfold renO
  split
  · rename_i h0
    split
    · rename_i hs
      split
      · split
        · refine Nat.le_trans (exprO_len _ _) ?_
          obtain ⟨-, g2⟩ := linE_zero h0
          rw [(movL_good l (fun s hs => g2 s (List.mem_append_left _ hs)) ts n.toNat (nz l)).1]
          unfold sizeB at hs
          simp at hs
          omega
        · exact Nat.zero_le _
      · exact Nat.zero_le _
    · exact Nat.zero_le _
  · exact Nat.zero_le _

set_option maxRecDepth 20000 in
set_option maxHeartbeats 4000000 in
theorem lren_walk (l : List ByteArray) (k : ByteArray) (ao : Option Addr) (c : Nat) (ts : List Int) (tp : Option Addr) (tc : Nat) (n : Int) (w : World)
    (hr : SRow w ao c l) (_hz : ∀ s ∈ l ++ [k], s.size ≤ 9223372036854775807) (hn : l.length ≤ 9223372036854775807) (ht : IRow w tp tc ts) (_hz2 : ∀ n ∈ ts, -9223372036854775808 ≤ n ∧ n ≤ 9223372036854775807) (hn2 : ts.length ≤ 9223372036854775807)
    (_hi1 : -9223372036854775808 ≤ n) (_hi2 : n ≤ 9223372036854775807)
    (htab : Lib.TabIs Tryz.prog w "internal/strconv.uint64pow10" .u64 Lib.pow10Tab) :
    Calls Tryz.prog 7 #[.agg #[.slice ao l.length c, .string k], .slice tp ts.length tc, .int .i64 n] w fun e w' => e = .returned (.bool true) ∧ Below w.heap.size w w' := by
  have hT := Lib.tabBelow_of_tabIs htab
  have CA : ∀ W : World, Below w.heap.size w W → Calls Tryz.prog 13 #[] W (Bret (.bool true) W) := fun W hW => awake03 W (hT.on hW).here
  have CF := fun (W : World) (hW : Below w.heap.size w W) => refFew l k ao c W (hr.mono hW) (by omega)
  have X := Bx2.new w (.slice ao l.length c) (.string k) 27
  have B : Below w.heap.size w (w.alloc (Obj.cells #[.slice ao l.length c, .string k] 27)) := (Below.refl _ _).alloc (Nat.le_refl _) _
  have x0 := X.c0; have x1 := X.c1; have x2 := X.lt
  cases hf : fewL l k
  · rw [hf] at CF
    generalize l.length = nl at *
    generalize ts.length = nt at *
    have KA := Lib.hid CA; have KF := Lib.hid CF
    clear CA CF hT htab hr ht hf _hz _hz2
    go_enter Tryz.func7, Tryz.ntmps7
    go_wp2_with (go_at_call 19; refine (KF.out _ B).mono ?_; rintro e w0 ⟨rfl, hb0⟩; refine Hid.out ?_)
    have B0 := Below.chain B hb0; clear hb0 B
    refine Lib.hid ?_
    go_wp2_with (go_at_call 13; refine (KA.out _ B0).mono ?_; rintro e w1 ⟨rfl, hb1⟩; refine Hid.out ?_)
    have B1 := Below.chain B0 hb1; clear hb1 B0
    refine Lib.hid ?_
    go_wp2
    refine bodyPost_ret (v := .bool true) (by simp [results, Tryz.results7, go_sem]) rfl ?_
    exact ⟨rfl, B1⟩
  rw [hf] at CF
  by_cases h40 : 40 < ts.length
  · have hd : (40 : Int) < (ts.length : Int) := by omega
    generalize l.length = nl at *
    generalize ts.length = nt at *
    have KA := Lib.hid CA; have KF := Lib.hid CF
    clear CA CF hT htab hr ht hf _hz _hz2
    go_enter Tryz.func7, Tryz.ntmps7
    go_wp2_with (go_at_call 19; refine (KF.out _ B).mono ?_; rintro e w0 ⟨rfl, hb0⟩; refine Hid.out ?_)
    have B0 := Below.chain B hb0; clear hb0 B
    refine Lib.hid ?_
    go_wp2_with (go_at_call 13; refine (KA.out _ B0).mono ?_; rintro e w1 ⟨rfl, hb1⟩; refine Hid.out ?_)
    have B1 := Below.chain B0 hb1; clear hb1 B0
    refine Lib.hid ?_
    go_wp2
    refine bodyPost_ret (v := .bool true) (by simp [results, Tryz.results7, go_sem]) rfl ?_
    exact ⟨rfl, B1⟩
  obtain ⟨f1, f2⟩ := fewL_spec hf
  have C1 := fun (W : World) (hW : Below w.heap.size w W) => linRename l k ao c ts tp tc n W (hr.mono hW) (fun s hs => Nat.le_trans (f2 s hs) (by decide)) (by omega) (ht.mono hW) (by omega) (hT.on hW).here
  have C2 := fun (W : World) (hW : Below w.heap.size w W) => refRename l k ao c ts tp tc n W (hr.mono hW) (fun s hs => Nat.le_trans (f2 s hs) (by decide)) (by omega) (ht.mono hW) (by omega)
  have L1 := renO_len l k ts n
  have hd : (ts.length : Int) ≤ 40 := by omega
  generalize renO l k ts n = O1 at *
  clear f1 f2 hf h40
  generalize l.length = nl at *
  generalize ts.length = nt at *
  have KA := Lib.hid CA; have KF := Lib.hid CF; have K1 := Lib.hid C1; have K2 := Lib.hid C2; have KL1 := Lib.hid L1
  clear CA CF C1 C2 L1 hT htab hr ht _hz _hz2
  go_enter Tryz.func7, Tryz.ntmps7
  go_wp2_with (go_at_call 19; refine (KF.out _ B).mono ?_; rintro e w0 ⟨rfl, hb0⟩; refine Hid.out ?_)
  have B5 := Below.chain B hb0; have X5 := X.mono hb0
  clear hb0 B X x0 x1 x2
  have x0 := X5.c0; have x1 := X5.c1; have x2 := X5.lt
  refine Lib.hid ?_
  go_wp2_with (go_at_call 36; refine (K1.out _ B5).mono ?_; rintro e w1 ⟨a1, c1, rfl, r1, hb1⟩; refine Hid.out ?_)
  have P1 := OB.new r1 27
  have N1 := nb hb1 (Obj.cells #[.slice a1 O1.l.length c1, .string O1.k] 27)
  have B1 := Below.chain B5 N1; have X1 := X5.mono N1
  clear r1 hb1 B5 X5 x0 x1 x2 N1
  have x0 := X1.c0; have x1 := X1.c1; have x2 := X1.lt
  refine Lib.hid ?_
  go_wp2_with (go_at_call 37; refine (K2.out _ B1).mono ?_; rintro e w2 ⟨a2, c2, rfl, r2, hb2⟩; refine Hid.out ?_)
  have Q1 := P1.mono (nb hb2 (Obj.cells #[.slice a2 O1.l.length c2, .string O1.k] 27))
  have Q2 := OB.new r2 27
  have B2 := Below.chain B1 (nb hb2 (Obj.cells #[.slice a2 O1.l.length c2, .string O1.k] 27))
  clear r2 hb2 P1 B1 X1 x0 x1 x2
  have x0 := Q1.x.c0; have x1 := Q1.x.c1; have x2 := Q1.x.lt; have y0 := Q2.x.c0; have y1 := Q2.x.c1; have y2 := Q2.x.lt
  have S1 := sameO O1 a1 a2 c1 c2 _ _ _ KL1.out Q1 Q2
  have KS1 := Lib.hid S1; clear S1
  refine Lib.hid ?_
  go_wp2_with (go_at_call 18; refine KS1.out.mono ?_; rintro e w6 ⟨rfl, hb6⟩; refine Hid.out ?_)
  have B6 := Below.chain B2 hb6
  clear x0 x1 x2 y0 y1 y2 Q1 Q2 B2 hb6
  refine Lib.hid ?_
  go_wp2_with (go_at_call 13; refine (KA.out _ B6).mono ?_; rintro e w7 ⟨rfl, hb7⟩; refine Hid.out ?_)
  have B7 := Below.chain B6 hb7; clear hb7 B6
  refine Lib.hid ?_
  go_wp2
  refine bodyPost_ret (v := .bool true) (by simp [results, Tryz.results7, go_sem]) rfl ?_
  exact ⟨rfl, B7⟩
end Go.Proofs.YtjobmkdaaionlaaGreatDoor

