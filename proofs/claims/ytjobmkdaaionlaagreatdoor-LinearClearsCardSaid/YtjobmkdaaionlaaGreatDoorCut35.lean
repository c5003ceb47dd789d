import Derived.Test.YtjobmkdaaionlaaGreatDoorCut32
import Derived.Test.YtjobmkdaaionlaaGreatDoorCut34
import Derived.Laws.OwnMore
import Derived.SliceStrings
import Derived.ChangeSlices
import Derived.DataShut
import Derived.OpenShut
import Derived.ChangeMaps5
import Derived.Lib.SmallJoins

set_option linter.unusedVariables false
/-
  linear: Constant.
-/
set_option linter.unusedSimpArgs false
namespace Go.Proofs.YtjobmkdaaionlaaGreatDoor
open Go Go.Proofs Go.RowKit
def u1 : ByteArray := ⟨#[49]⟩
theorem Bx2.set {W : World} {p : Nat} {u v : Value} (h : Bx2 W p u v) {g : Nat} (hne : p ≠ g) (o : Nat) (x : Value) : Bx2 (W.setCell ⟨g, o, none⟩ x) p u v :=
  ⟨(World.cell?_setCell_other W ⟨g, o, none⟩ ⟨p, 0, none⟩ x (by intro e; injection e with e; exact hne e.symm)).trans h.c0,
   (World.cell?_setCell_other W ⟨g, o, none⟩ ⟨p, 1, none⟩ x (by intro e; injection e with e; exact hne e.symm)).trans h.c1,
   (World.frozen?_setCell ..).trans h.f0, (World.frozen?_setCell ..).trans h.f1, by simpa using h.lt⟩
theorem Bx2.low {W W' : World} {p B : Nat} {u v : Value} (h : Bx2 W p u v) (g : Below B W W') (hp : p < B) : Bx2 W' p u v :=
  ⟨(g.cell (p := ⟨p, 0, none⟩) hp).trans h.c0, (g.cell (p := ⟨p, 1, none⟩) hp).trans h.c1, (g.frozen (p := ⟨p, 0, none⟩) hp).trans h.f0, (g.frozen (p := ⟨p, 1, none⟩) hp).trans h.f1, Nat.lt_of_lt_of_le h.lt g.size⟩
theorem Bx2.put0 {W : World} {p : Nat} {u v : Value} (h : Bx2 W p u v) (x : Value) : Bx2 (W.setCell ⟨p, 0, none⟩ x) p x v :=
  ⟨cellSet h.c0 x, (World.cell?_setCell_other W ⟨p, 0, none⟩ ⟨p, 1, none⟩ x (by simp)).trans h.c1, (World.frozen?_setCell ..).trans h.f0, (World.frozen?_setCell ..).trans h.f1, by simpa using h.lt⟩
structure OutL (W : World) (B : Nat) (ao : Option Addr) (c : Nat) (l : List ByteArray) (x : ByteArray) : Prop where
  bx : Bx2 W B (.slice ao l.length c) (.string x)
  own : W.ownsRow (B + 1) 22 1 (.slice ao l.length c) l.length (strCells l)
theorem OutL.mono {W W' : World} {B : Nat} {ao : Option Addr} {c : Nat} {l : List ByteArray} {x : ByteArray} (h : OutL W B ao c l x) (g : Below W.heap.size W W') : OutL W' B ao c l x := by
  refine ⟨h.bx.mono g, ?_⟩
  obtain ⟨h1, h2⟩ := h.own
  refine ⟨h1, h2.imp_right fun ⟨b, cap, cur, e, hb, hg, r⟩ => ⟨b, cap, cur, e, hb, ?_, r⟩⟩
  rw [g.block b (Array.getElem?_eq_some_iff.1 hg).1]; exact hg
theorem OutL.new (W : World) (x : ByteArray) (T : TypeId) : OutL (W.alloc (Obj.cells #[.slice none 0 0, .string x] T)) W.heap.size none 0 [] x := ⟨Bx2.new W _ _ T, World.ownsRow_nil ..⟩
theorem OutL.next {W W' : World} {B : Nat} {ao : Option Addr} {c : Nat} {l : List ByteArray} {x k : ByteArray} {g cap : Nat} (h : OutL W B ao c l x) (hown : W'.ownsRow (B + 1) 22 1 (.slice (some ⟨g, 0, none⟩) (l.length + 1) cap) (l.length + 1) (strCells (l ++ [k]))) (hb : Below (B + 1) W W') :
    OutL (W'.setCell ⟨B, 0, none⟩ (.slice (some ⟨g, 0, none⟩) (l.length + 1) cap)) B (some ⟨g, 0, none⟩) cap (l ++ [k]) x := by
  have e : (l ++ [k]).length = l.length + 1 := by simp
  refine ⟨?_, ?_⟩
  · rw [e]; exact (h.bx.low hb (Nat.lt_succ_self _)).put0 _
  · rw [e]; exact ownsRow_setCell_below hown (Nat.lt_succ_self _) _
def OutRet (Bd : Nat) (l : List ByteArray) (x : ByteArray) (w : World) (e : Ending) (w' : World) : Prop := ∃ ao c, e = .returned (.agg #[.slice ao l.length c, .string x]) ∧ w'.ownsRow Bd 22 1 (.slice ao l.length c) l.length (strCells l) ∧ Below w.heap.size w w'
theorem OutRet.row {W : World} {Bd : Nat} {ao : Option Addr} {c : Nat} {l : List ByteArray} (h : W.ownsRow Bd 22 1 (.slice ao l.length c) l.length (strCells l)) : RowB Bd W ao c l := by
  refine ⟨?_, fun a ha => ?_⟩
  · obtain ⟨a2, c2, e, r⟩ := srow_of_ownsT h
    cases e; exact r
  · rcases h.2 with ⟨e, -⟩ | ⟨g, cap, cur, e, hb, -⟩
    · injection e with e1 e2 e3; rw [e1] at ha; cases ha
    · injection e with e1 e2 e3; rw [e1] at ha; cases ha; exact hb
end Go.Proofs.YtjobmkdaaionlaaGreatDoor

namespace Go.Proofs.YtjobmkdaaionlaaGreatDoor
open Go Go.Proofs Go.RowKit Go.ChangeShapes Go.WideShapes Go.ChangeMaps
section
variable {H : Type} {enc : TypeId × Value → H} {P : Program} {w : World}
theorem SRow.open {t e : TypeId} {fuel : Nat} {v : Value} {x : DataW H × List MemPlace} (ht : P.underlying t = some (.slice e)) (he : P.underlying e = some .string) (hc : P.cellsOf e = 1)
    (h : DataW.trod enc P w 0 (fun _ => true) true fuel t [v] = some x) : ∃ (ao : Option Addr) (c : Nat) (l : List ByteArray), v = .slice ao l.length c ∧ SRow w ao c l ∧ (∀ s ∈ l, s.size ≤ 9223372036854775807) ∧ l.length ≤ 9223372036854775807 := by
  rcases open_strings ht he hc h with ⟨hcs, -⟩ | ⟨a, len, cap, ss, hcs, -, hl, hm, hz, -, hcell, hsz⟩
  · cases hcs
    exact ⟨none, 0, [], rfl, SRow.nil w, by simp, by simp⟩
  · cases hcs
    simp only [if_true] at hz
    have hm' : cap ≤ 9223372036854775807 := hm
    have e1 : (ss.take len).length = len := by rw [List.length_take]; omega
    refine ⟨some a, cap, ss.take len, by rw [e1], ⟨by rw [e1]; exact hl, hm', ?_⟩, fun s hs => hsz s (List.mem_of_mem_take hs), by rw [e1]; omega⟩
    rcases Nat.eq_zero_or_pos len with h0 | h0
    · subst h0
      exact .inl ⟨by simp, fun h => by cases h⟩
    · have c0 := hcell 0 (by omega)
      obtain ⟨b, off, sp⟩ := a
      have hsp : sp = none := by
        cases sp with
        | none => rfl
        | some q =>
          simp only [Addr.add, World.cell?] at c0
          split at c0 <;> simp at c0
      subst hsp
      refine .inr ⟨b, off, rfl, ?_, fun k hk => ?_⟩
      · simp only [Addr.add, World.cell?] at c0
        split at c0
        · rename_i hh
          exact (Array.getElem?_eq_some_iff.1 hh).1
        · cases c0
      · rw [e1] at hk
        have := hcell k (by omega)
        have hk2 : k < ss.length := by omega
        rw [List.getD_eq_getElem?_getD, List.getElem?_eq_getElem hk2] at this
        rw [List.getElem_take]
        rw [addr_add] at this
        exact this
end
theorem linear_laidOut : laidOutB Tryz.prog = true := by kernel_rfl
end Go.Proofs.YtjobmkdaaionlaaGreatDoor
