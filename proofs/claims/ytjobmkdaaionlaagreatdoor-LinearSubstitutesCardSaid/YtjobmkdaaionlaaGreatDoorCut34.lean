import Derived.Test.YtjobmkdaaionlaaGreatDoorCut31
import Derived.Test.YtjobmkdaaionlaaGreatDoorCut33
import Derived.Laws.OwnMore
import Derived.SliceStrings
import Derived.ChangeSlices
import Derived.DataShut
import Derived.OpenShut
import Derived.ChangeMaps5
import Derived.Lib.SmallJoins

set_option linter.unusedVariables false
/-
  linear: Constant.
-/
set_option linter.unusedSimpArgs false
namespace Go.Proofs.YtjobmkdaaionlaaGreatDoor
open Go Go.Proofs Go.RowKit

end Go.Proofs.YtjobmkdaaionlaaGreatDoor

/-
  linear: Variable.
-/
set_option linter.unusedSimpArgs false
namespace Go.Proofs.YtjobmkdaaionlaaGreatDoor
open Go Go.Proofs Go.RowKit

def u1 : ByteArray := ⟨#[49]⟩
theorem Bx2.set {W : World} {p : Nat} {u v : Value} (h : Bx2 W p u v) {g : Nat} (hne : p ≠ g) (o : Nat) (x : Value) : Bx2 (W.setCell ⟨g, o, none⟩ x) p u v :=
  ⟨(World.cell?_setCell_other W ⟨g, o, none⟩ ⟨p, 0, none⟩ x (by intro e; injection e with e; exact hne e.symm)).trans h.c0,
   (World.cell?_setCell_other W ⟨g, o, none⟩ ⟨p, 1, none⟩ x (by intro e; injection e with e; exact hne e.symm)).trans h.c1,
   (World.frozen?_setCell ..).trans h.f0, (World.frozen?_setCell ..).trans h.f1, by simpa using h.lt⟩

end Go.Proofs.YtjobmkdaaionlaaGreatDoor

/-
  linear: the reference's Flat, One, Constant, Variable, FewText.
-/
set_option linter.unusedSimpArgs false
namespace Go.Proofs.YtjobmkdaaionlaaGreatDoor
open Go Go.Proofs Go.RowKit

/-- An element that is appended to an own row, in a list of operations. -/
theorem wpList_append_row {ops : Array Oper} {rest : List Oper} {o : Oper} {a : Act} {W : World} {Q : Exit → Act → World → Prop}
    (hg : o.guard = none) (s x : Operand) (hop : o.op = Op.call { callee := Callee.builtin Builtin.append, args := #[s, x], argTypes := #[25, 25] })
    (base : Nat) (v : Value) (n : Nat) (l : List ByteArray) (hn : l.length = n) (hs : a.eval s = v) (hown : W.ownsRow base 22 1 v n (strCells l)) (hl : n ≤ 1000000) (hbase : base ≤ W.heap.size)
    (ad : Nat) (k : ByteArray) (hx : a.eval x = .slice (some ⟨ad, 0, none⟩) 1 1) (hc : W.cell? ⟨ad, 0, none⟩ = some (.string k))
    (hK : ∀ (g cap : Nat) (w9 : World), w9.ownsRow base 22 1 (.slice (some ⟨g, 0, none⟩) (n + 1) cap) (n + 1) (strCells (l ++ [k])) → Below base W w9 → wpList Tryz.prog ops Q rest (a.put o.dst (.slice (some ⟨g, 0, none⟩) (n + 1) cap)) w9) :
    wpList Tryz.prog ops Q (o :: rest) a W := by
  obtain ⟨i0, hi, hz0, hz1, hz2⟩ := info_parts infoRat
  refine wpList_append_lies W hg s x 25 hop base 22 i0 (.string ⟨#[]⟩) 1 16 Tryz.underlying25 hi hz0 hz1 hz2 rfl (by decide) v n (strCells l) hs hown ⟨ad, 0, none⟩ 1 1 [.string k] hx rfl ?_ (by intro u hu; simp at hu; subst hu; rfl) (by decide) (by unfold maxLen; omega) (by omega) hbase _ rfl ?_
  · intro j u hu
    match j, hu with
    | 0, hu => simp at hu; subst hu; rw [addr_zero]; exact hc
  · intro g cap w9 hown9 hgrow _ hg9
    rw [show strCells l ++ [Value.string k] = strCells (l ++ [k]) from (strCells_append l [k]).symm] at hown9
    exact hK g cap w9 hown9 ((Below.refl _ _).grown hgrow hbase (fun k hk => (hown.lt k hk).1))

theorem Bx2.low {W W' : World} {p B : Nat} {u v : Value} (h : Bx2 W p u v) (g : Below B W W') (hp : p < B) : Bx2 W' p u v :=
  ⟨(g.cell (p := ⟨p, 0, none⟩) hp).trans h.c0, (g.cell (p := ⟨p, 1, none⟩) hp).trans h.c1, (g.frozen (p := ⟨p, 0, none⟩) hp).trans h.f0, (g.frozen (p := ⟨p, 1, none⟩) hp).trans h.f1, Nat.lt_of_lt_of_le h.lt g.size⟩
theorem Bx2.put0 {W : World} {p : Nat} {u v : Value} (h : Bx2 W p u v) (x : Value) : Bx2 (W.setCell ⟨p, 0, none⟩ x) p x v :=
  ⟨cellSet h.c0 x, (World.cell?_setCell_other W ⟨p, 0, none⟩ ⟨p, 1, none⟩ x (by simp)).trans h.c1, (World.frozen?_setCell ..).trans h.f0, (World.frozen?_setCell ..).trans h.f1, by simpa using h.lt⟩
/-- An expression that is being built: its box at B, its row behind. -/
structure OutL (W : World) (B : Nat) (ao : Option Addr) (c : Nat) (l : List ByteArray) (x : ByteArray) : Prop where
  bx : Bx2 W B (.slice ao l.length c) (.string x)
  own : W.ownsRow (B + 1) 22 1 (.slice ao l.length c) l.length (strCells l)
theorem OutL.mono {W W' : World} {B : Nat} {ao : Option Addr} {c : Nat} {l : List ByteArray} {x : ByteArray} (h : OutL W B ao c l x) (g : Below W.heap.size W W') : OutL W' B ao c l x := by
  refine ⟨h.bx.mono g, ?_⟩
  obtain ⟨h1, h2⟩ := h.own
  refine ⟨h1, h2.imp_right fun ⟨b, cap, cur, e, hb, hg, r⟩ => ⟨b, cap, cur, e, hb, ?_, r⟩⟩
  rw [g.block b (Array.getElem?_eq_some_iff.1 hg).1]; exact hg
theorem OutL.new (W : World) (x : ByteArray) (T : TypeId) : OutL (W.alloc (Obj.cells #[.slice none 0 0, .string x] T)) W.heap.size none 0 [] x := ⟨Bx2.new W _ _ T, World.ownsRow_nil ..⟩
theorem OutL.next {W W' : World} {B : Nat} {ao : Option Addr} {c : Nat} {l : List ByteArray} {x k : ByteArray} {g cap : Nat} (h : OutL W B ao c l x) (hown : W'.ownsRow (B + 1) 22 1 (.slice (some ⟨g, 0, none⟩) (l.length + 1) cap) (l.length + 1) (strCells (l ++ [k]))) (hb : Below (B + 1) W W') :
    OutL (W'.setCell ⟨B, 0, none⟩ (.slice (some ⟨g, 0, none⟩) (l.length + 1) cap)) B (some ⟨g, 0, none⟩) cap (l ++ [k]) x := by
  have e : (l ++ [k]).length = l.length + 1 := by simp
  refine ⟨?_, ?_⟩
  · rw [e]; exact (h.bx.low hb (Nat.lt_succ_self _)).put0 _
  · rw [e]; exact ownsRow_setCell_below hown (Nat.lt_succ_self _) _

/-- The value of an expression that was built. -/
def OutRet (Bd : Nat) (l : List ByteArray) (x : ByteArray) (w : World) (e : Ending) (w' : World) : Prop := ∃ ao c, e = .returned (.agg #[.slice ao l.length c, .string x]) ∧ w'.ownsRow Bd 22 1 (.slice ao l.length c) l.length (strCells l) ∧ Below w.heap.size w w'

end Go.Proofs.YtjobmkdaaionlaaGreatDoor

/-
  linear: the reference's One, Constant, Variable, FewText.
-/
set_option linter.unusedSimpArgs false
namespace Go.Proofs.YtjobmkdaaionlaaGreatDoor
open Go Go.Proofs Go.RowKit

theorem shortS_num {s : ByteArray} (h : numE (bytes s) = 0) : shortS s = true := (numE_zero h).2
theorem OutRet.row {W : World} {Bd : Nat} {ao : Option Addr} {c : Nat} {l : List ByteArray} (h : W.ownsRow Bd 22 1 (.slice ao l.length c) l.length (strCells l)) : RowB Bd W ao c l := by
  refine ⟨?_, fun a ha => ?_⟩
  · obtain ⟨a2, c2, e, r⟩ := srow_of_ownsT h
    cases e; exact r
  · rcases h.2 with ⟨e, -⟩ | ⟨g, cap, cur, e, hb, -⟩
    · injection e with e1 e2 e3; rw [e1] at ha; cases ha
    · injection e with e1 e2 e3; rw [e1] at ha; cases ha; exact hb

def fewT (s : ByteArray) : Bool := decide (s.size ≤ 450)
set_option maxHeartbeats 1000000 in
theorem fewText (s : ByteArray) (w : World) : Calls Tryz.prog 12 #[.string s] w fun e w' => e = .returned (.bool (fewT s)) ∧ w' = w := by
  unfold fewT
  by_cases h : s.size ≤ 450
  all_goals
    go_enter Tryz.func12, Tryz.ntmps12
    go_wp2
    refine bodyPost_ret (v := .bool (decide (s.size ≤ 450))) (by simp [results, Tryz.results12, go_sem] <;> omega) rfl ?_
    exact ⟨rfl, rfl⟩
end Go.Proofs.YtjobmkdaaionlaaGreatDoor

/-
  linear: the reference's Few.
-/
set_option linter.unusedSimpArgs false
namespace Go.Proofs.YtjobmkdaaionlaaGreatDoor
open Go Go.Proofs Go.RowKit

def fewL (l : List ByteArray) (k : ByteArray) : Bool := decide (l.length ≤ 40) && (fewT k && l.all fewT)
theorem all_drop (l : List ByteArray) (j : Nat) (h : j < l.length) : (l.drop j).all fewT = (fewT l[j] && (l.drop (j + 1)).all fewT) := by
  rw [List.drop_eq_getElem_cons h, List.all_cons]

set_option maxHeartbeats 2000000 in
theorem refFew (l : List ByteArray) (k : ByteArray) (ao : Option Addr) (c : Nat) (w : World) (hr : SRow w ao c l) (hm : (l.length : Int) ≤ 9223372036854775807) :
    Calls Tryz.prog 19 #[.agg #[.slice ao l.length c, .string k]] w (Bret (.bool (fewL l k)) w) := by
  have CK := fun (W : World) => fewText k W
  have X := Bx2.new w (.slice ao l.length c) (.string k) 27
  have B : Below w.heap.size w (w.alloc (Obj.cells #[.slice ao l.length c, .string k] 27)) := (Below.refl _ _).alloc (Nat.le_refl _) _
  have x0 := X.c0; have x1 := X.c1; have x4 := X.lt
  have hga : ∀ W, Below w.heap.size w W → ∀ j (hj : j < l.length), ∃ b off, ao = some ⟨b, off, none⟩ ∧ b < W.heap.size ∧ W.cell? ⟨b, off + j, none⟩ = some (.string (l[j]'hj)) := fun W hW => (hr.mono hW).get
  have HA := Lib.hid hga; clear hga hr
  have HB := Lib.hid B; have HX := Lib.hid X; clear B X
  unfold fewL
  by_cases h1 : l.length ≤ 40
  · rw [decide_eq_true h1, Bool.true_and]
    cases hk : fewT k
    · rw [hk] at CK
      rw [Bool.false_and]
      have KK := Lib.hid CK; clear CK hk
      have h1' : (l.length : Int) ≤ 40 := by omega
      go_enter Tryz.func19, Tryz.ntmps19
      go_wp2_with (go_at_call 12; refine (KK.out _).mono ?_; rintro e w1 ⟨rfl, h⟩; subst h; refine Hid.out ?_)
      refine Lib.hid ?_
      go_wp2
      refine bodyPost_ret (v := .bool false) (by simp [results, Tryz.results19, go_sem]) rfl ?_
      exact ⟨rfl, HB.out⟩
    · rw [hk] at CK
      rw [Bool.true_and]
      have KK := Lib.hid CK; clear CK hk
      have h1' : (l.length : Int) ≤ 40 := by omega
      go_enter Tryz.func19, Tryz.ntmps19
      go_wp2_with (go_at_call 12; refine (KK.out _).mono ?_; rintro e w1 ⟨rfl, h⟩; subst h; refine Hid.out ?_)
      refine Lib.hid ?_
      go_wp2_with fail
      clear x0 x1 x4
      go_loopw [3] (fun iv wr => ∃ j : Nat, j ≤ l.length ∧ iv = .int .i64 (j : Int) ∧ l.all fewT = (l.drop j).all fewT ∧ Bx2 wr w.heap.size (.slice ao l.length c) (.string k) ∧ Below w.heap.size w wr) (fun iv _ => l.length - (intOf iv).toNat)
      case atStart => exact ⟨0, Nat.zero_le _, rfl, by rw [List.drop_zero], HX.out, HB.out⟩
      case round =>
        obtain ⟨j, hj, rfl, he, hx, hbw⟩ := hrel
        have x0 := hx.c0; have x1 := hx.c1; have x4 := hx.lt
        have HBW := Lib.hid hbw; have HXR := Lib.hid hx; have HE := Lib.hid he
        by_cases hlt : j < l.length
        · obtain ⟨b1, o1, rfl, -, k1⟩ := HA.out wr hbw j hlt
          have hd := all_drop l j hlt
          have CJ := fun (W : World) => fewText (l[j]'hlt) W
          generalize l[j]'hlt = sj at *
          have hj0 : (0 : Int) ≤ (j : Int) := by omega
          have hj1 : (j : Int) < (l.length : Int) := by omega
          cases hf : fewT sj
          · rw [hf] at CJ hd
            rw [Bool.false_and] at hd
            have hres := Lib.hid (he.trans hd)
            have KJ := Lib.hid CJ; clear CJ hd hf hbw hx he
            go_wp2_with (go_at_call 12; refine (KJ.out _).mono ?_; rintro e w1 ⟨rfl, h⟩; subst h; refine Hid.out ?_)
            refine Lib.hid ?_
            go_wp2
            go_ret
            exact ⟨by rw [hres.out]; rfl, HBW.out⟩
          · rw [hf] at CJ hd
            rw [Bool.true_and] at hd
            have hres := Lib.hid (he.trans hd)
            have KJ := Lib.hid CJ; clear CJ hd hf hbw hx he
            go_wp2_with (go_at_call 12; refine (KJ.out _).mono ?_; rintro e w1 ⟨rfl, h⟩; subst h; refine Hid.out ?_)
            refine Lib.hid ?_
            go_wp2
            go_roundw
            case rel => exact ⟨j + 1, by omega, by go_num, hres.out, HXR.out, HBW.out⟩
            case measure => simp [intOf]; omega
        · have hjn : j = l.length := by omega
          subst hjn
          have hres := Lib.hid (he.trans (by rw [List.drop_length]; rfl : (l.drop l.length).all fewT = true))
          clear hbw hx he
          go_wp2
          go_ret
          exact ⟨by rw [hres.out]; rfl, HBW.out⟩
  · rw [decide_eq_false h1, Bool.false_and]
    have h1' : (40 : Int) < (l.length : Int) := by omega
    clear CK
    go_enter Tryz.func19, Tryz.ntmps19
    go_wp2
    refine bodyPost_ret (v := .bool false) (by simp [results, Tryz.results19, go_sem]) rfl ?_
    exact ⟨rfl, HB.out⟩
end Go.Proofs.YtjobmkdaaionlaaGreatDoor

/-
  A linear expression by value, opened; lists of numbers as arguments.
-/
namespace Go.Proofs.YtjobmkdaaionlaaGreatDoor
open Go Go.Proofs Go.RowKit Go.ChangeShapes Go.WideShapes Go.ChangeMaps

theorem fewL_spec {l : List ByteArray} {k : ByteArray} (h : fewL l k = true) : l.length ≤ 40 ∧ ∀ s ∈ l ++ [k], s.size ≤ 450 := by
  unfold fewL fewT at h
  rw [Bool.and_eq_true, Bool.and_eq_true, decide_eq_true_eq, decide_eq_true_eq, List.all_eq_true] at h
  refine ⟨h.1, fun s hs => ?_⟩
  rcases List.mem_append.1 hs with q | q
  · exact of_decide_eq_true (h.2.2 s q)
  · rw [List.mem_singleton.1 q]; exact h.2.1

section
variable {H : Type} {enc : TypeId × Value → H} {P : Program} {w : World}
theorem SRow.open {t e : TypeId} {fuel : Nat} {v : Value} {x : DataW H × List MemPlace} (ht : P.underlying t = some (.slice e)) (he : P.underlying e = some .string) (hc : P.cellsOf e = 1)
    (h : DataW.trod enc P w 0 (fun _ => true) true fuel t [v] = some x) : ∃ (ao : Option Addr) (c : Nat) (l : List ByteArray), v = .slice ao l.length c ∧ SRow w ao c l ∧ (∀ s ∈ l, s.size ≤ 9223372036854775807) ∧ l.length ≤ 9223372036854775807 := by
  rcases open_strings ht he hc h with ⟨hcs, -⟩ | ⟨a, len, cap, ss, hcs, -, hl, hm, hz, -, hcell, hsz⟩
  · cases hcs
    exact ⟨none, 0, [], rfl, SRow.nil w, by simp, by simp⟩
  · cases hcs
    simp only [if_true] at hz
    have hm' : cap ≤ 9223372036854775807 := hm
    have e1 : (ss.take len).length = len := by rw [List.length_take]; omega
    refine ⟨some a, cap, ss.take len, by rw [e1], ⟨by rw [e1]; exact hl, hm', ?_⟩, fun s hs => hsz s (List.mem_of_mem_take hs), by rw [e1]; omega⟩
    rcases Nat.eq_zero_or_pos len with h0 | h0
    · subst h0
      exact .inl ⟨by simp, fun h => by cases h⟩
    · have c0 := hcell 0 (by omega)
      obtain ⟨b, off, sp⟩ := a
      have hsp : sp = none := by
        cases sp with
        | none => rfl
        | some q =>
          simp only [Addr.add, World.cell?] at c0
          split at c0 <;> simp at c0
      subst hsp
      refine .inr ⟨b, off, rfl, ?_, fun k hk => ?_⟩
      · simp only [Addr.add, World.cell?] at c0
        split at c0
        · rename_i hh
          exact (Array.getElem?_eq_some_iff.1 hh).1
        · cases c0
      · rw [e1] at hk
        have := hcell k (by omega)
        have hk2 : k < ss.length := by omega
        rw [List.getD_eq_getElem?_getD, List.getElem?_eq_getElem hk2] at this
        rw [List.getElem_take]
        rw [addr_add] at this
        exact this
theorem open_linear {r : Reach} {b0 : Nat} {t e : TypeId} {f0 f1 : Field} {v : Value} {d : DataW H} {ps : List MemPlace} (ht : P.underlying t = some (.struct #[f0, f1])) (hone : Go.Deep.oneCellFields P #[f0, f1] = true) (hC : P.cellsOf t = 2)
    (h0 : P.underlying f0.type = some (.slice e)) (he : P.underlying e = some .string) (hc : P.cellsOf e = 1) (h1 : P.underlying f1.type = some .string)
    (hv : Value.okWide P w r b0 t v) (h : DataW.Trod enc P w 0 (fun _ => true) true t v d ps) :
    ∃ (ao : Option Addr) (c : Nat) (l : List ByteArray) (k : ByteArray), v = .agg #[.slice ao l.length c, .string k] ∧ SRow w ao c l ∧ (∀ s ∈ l ++ [k], s.size ≤ 9223372036854775807) ∧ l.length ≤ 9223372036854775807 := by
  obtain ⟨v0, v1, y0, y1, n, rfl, -, -, g0, g1⟩ := Go.Joins.open_agg2 ht hone hC hv h
  obtain ⟨ao, c, l, rfl, r, hs, hl⟩ := SRow.open h0 he hc g0
  obtain ⟨k, e1, -, k1⟩ := DataW.trod_string h1 g1
  cases e1
  refine ⟨ao, c, l, k, rfl, r, fun s h => ?_, hl⟩
  rcases List.mem_append.1 h with q | q
  · exact hs s q
  · rw [List.mem_singleton.1 q]; exact k1
end
theorem linear_laidOut : laidOutB Tryz.prog = true := by kernel_rfl
end Go.Proofs.YtjobmkdaaionlaaGreatDoor
