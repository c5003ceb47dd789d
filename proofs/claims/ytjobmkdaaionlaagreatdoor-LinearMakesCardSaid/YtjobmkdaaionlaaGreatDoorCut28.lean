import Derived.Test.YtjobmkdaaionlaaGreatDoorCut27
import Derived.Laws.OwnMore
import Derived.Lib.SliceRun
import Derived.Laws.CopyOwn
import Derived.Deep.RegionHeld3
import Derived.OwnWalk
import Derived.Test.YtjobmkdaaionlaaGreatDoorCut3
import Derived.Test.YtjobmkdaaionlaaGreatDoorCut15

set_option linter.unusedVariables false
/-
  linear: lists of numbers.
-/
namespace Go.Proofs.YtjobmkdaaionlaaGreatDoor
open Go Go.Proofs Go.RowKit

/-- A slice's cells hold these strings. -/
def SRow (w : World) (ao : Option Addr) (c : Nat) (l : List ByteArray) : Prop :=
  l.length ≤ c ∧ c ≤ 9223372036854775807 ∧ ((l = [] ∧ (ao = none → c = 0)) ∨ ∃ b off, ao = some ⟨b, off, none⟩ ∧ b < w.heap.size ∧ ∀ k (h : k < l.length), w.cell? ⟨b, off + k, none⟩ = some (.string (l[k]'h)))
theorem SRow.mono {w w' : World} {ao : Option Addr} {c : Nat} {l : List ByteArray} (h : SRow w ao c l) (hb : Below w.heap.size w w') : SRow w' ao c l := by
  obtain ⟨h1, h2, h3⟩ := h
  refine ⟨h1, h2, ?_⟩
  rcases h3 with h | ⟨b, off, h, hlt, hc⟩
  · exact .inl h
  · exact .inr ⟨b, off, h, Nat.lt_of_lt_of_le hlt hb.size, fun k hk => (hb.cell (p := ⟨b, off + k, none⟩) hlt).trans (hc k hk)⟩
theorem SRow.get {w : World} {ao : Option Addr} {c : Nat} {l : List ByteArray} (h : SRow w ao c l) (k : Nat) (hk : k < l.length) : ∃ b off, ao = some ⟨b, off, none⟩ ∧ b < w.heap.size ∧ w.cell? ⟨b, off + k, none⟩ = some (.string (l[k]'hk)) := by
  rcases h.2.2 with ⟨e, -⟩ | ⟨b, off, e, hlt, hc⟩
  · subst e; exact absurd hk (by simp)
  · exact ⟨b, off, e, hlt, hc k hk⟩
/-- The error of the first number with one. -/
def firstE : List ByteArray → Nat
  | [] => 0
  | s :: t => if numE (bytes s) = 0 then firstE t else numE (bytes s)
theorem firstE_drop (l : List ByteArray) (k : Nat) (h : k < l.length) : firstE (l.drop k) = if numE (bytes (l[k]'h)) = 0 then firstE (l.drop (k + 1)) else numE (bytes (l[k]'h)) := by
  rw [List.drop_eq_getElem_cons h]; rfl
theorem firstE_end (l : List ByteArray) : firstE (l.drop l.length) = 0 := by rw [List.drop_length]; rfl

set_option maxHeartbeats 2000000 in
theorem checkNumbersL (l : List ByteArray) (ao : Option Addr) (c : Nat) (w : World) (hr : SRow w ao c l) (hs : ∀ s ∈ l, s.size ≤ 800000) (hn : l.length ≤ 1000000000) (htab : Lib.TabIs Tryz.prog w "internal/strconv.uint64pow10" .u64 Lib.pow10Tab) :
    Calls Tryz.prog 66 #[.slice ao l.length c] w (Bret (.int .i64 (firstE l : Nat)) w) := by
  have hg : ∀ W, Below w.heap.size w W → ∀ k (hk : k < l.length), ∃ b off, ao = some ⟨b, off, none⟩ ∧ b < W.heap.size ∧ W.cell? ⟨b, off + k, none⟩ = some (.string (l[k]'hk)) := fun W hW => (hr.mono hW).get
  have HG := Lib.hid hg; have HS := Lib.hid hs
  have HT := Lib.hid (Lib.tabBelow_of_tabIs htab)
  have hend := firstE_end l
  clear hr hg hs htab
  generalize hlen : l.length = n at hn hend ⊢
  generalize hf : firstE l = f
  have HLEN := Lib.hid hlen; have HF := Lib.hid hf; have HEND := Lib.hid hend; clear hlen hf hend
  go_enter Tryz.func66, Tryz.ntmps66
  go_wp2_with fail
  go_loopw [8] (fun iv wr => ∃ k : Nat, k ≤ n ∧ iv = .int .i64 k ∧ f = firstE (l.drop k) ∧ Below w.heap.size w wr) (fun iv _ => n - (intOf iv).toNat)
  case atStart => exact ⟨0, Nat.zero_le _, rfl, by rw [List.drop_zero, HF.out], Below.refl _ _⟩
  case round =>
    obtain ⟨k, hk, rfl, hfk, hbw⟩ := hrel
    have HB := Lib.hid hbw; have HFK := Lib.hid hfk; clear hbw hfk
    by_cases hlt : k < n
    · have hlt' : k < l.length := by rw [HLEN.out]; exact hlt
      obtain ⟨b, off, rfl, hbl, ck⟩ := HG.out wr HB.out k hlt'
      have hz := HS.out _ (List.getElem_mem hlt')
      have hd := firstE_drop l k hlt'
      generalize l[k]'hlt' = sk at *
      have HD := Lib.hid hd; clear hd
      have CC := checkNumber sk wr hz (HT.out.on HB.out).here
      rcases numE_cases (bytes sk) with he | he | he
      · have e1 := HFK.out
        rw [HD.out, if_pos he] at e1
        have E1 := Lib.hid e1
        rw [he] at CC
        have KC := Lib.hid CC; clear CC e1 he HD HFK hz
        go_wp2_with (go_at_call 45; refine KC.out.mono ?_; rintro e w3 ⟨rfl, hb3⟩; refine Hid.out ?_)
        refine Lib.hid ?_
        go_wp2
        go_roundw
        case rel => exact ⟨k + 1, by omega, by go_num, E1.out, Below.chain HB.out hb3⟩
        case measure => simp [intOf]; omega
      all_goals
        have e1 := HFK.out
        rw [HD.out, if_neg (by omega), he] at e1
        subst e1
        rw [he] at CC
        have KC := Lib.hid CC; clear CC he HD HFK hz
        go_wp2_with (go_at_call 45; refine KC.out.mono ?_; rintro e w3 ⟨rfl, hb3⟩; refine Hid.out ?_)
        have HB3 := Lib.hid (Below.chain HB.out hb3); clear hb3
        refine Lib.hid ?_
        go_wp2
        go_ret
        exact ⟨rfl, HB3.out⟩
    · have hkn : k = n := by omega
      subst hkn
      have e1 := HFK.out
      rw [HEND.out] at e1
      subst e1
      go_wp2
      go_ret
      exact ⟨rfl, HB.out⟩

end Go.Proofs.YtjobmkdaaionlaaGreatDoor

/-
  linear: copies of lists of numbers.
-/
namespace Go.Proofs.YtjobmkdaaionlaaGreatDoor
open Go Go.Proofs Go.RowKit

theorem infoRat : (Tryz.prog.info? 22).map (fun i => (i.zero, i.size, i.bytes)) = some (some (.string ⟨#[]⟩), 1, 16) := by kernel_rfl
def strCells (l : List ByteArray) : List Value := l.map Value.string
theorem strCells_length (l : List ByteArray) : (strCells l).length = l.length := by simp [strCells]
theorem strCells_append (a b : List ByteArray) : strCells (a ++ b) = strCells a ++ strCells b := by simp [strCells]
theorem srow_of_owns {w : World} {base : Nat} {v : Value} {l : List ByteArray} (h : w.ownsRow base 22 1 v l.length (strCells l)) : ∃ ao c, v = .slice ao l.length c ∧ SRow w ao c l := by
  rcases h.2 with ⟨rfl, h0⟩ | ⟨g, cap, cur, rfl, -, hg, h1, h2, h3, h4⟩
  · have : l = [] := List.length_eq_zero_iff.1 h0
    subst this
    exact ⟨none, 0, rfl, by simp, by decide, .inl ⟨rfl, fun _ => rfl⟩⟩
  · refine ⟨_, cap, rfl, h1, h2, .inr ⟨g, 0, rfl, (Array.getElem?_eq_some_iff.1 hg).1, fun k hk => ?_⟩⟩
    rw [Nat.zero_add, h.cellAt k (by omega)]
    simp [strCells, hk]

set_option maxRecDepth 20000 in
set_option maxHeartbeats 1000000 in
theorem clone_any (l : List ByteArray) (ao : Option Addr) (c : Nat) (w : World) (hr : SRow w ao c l) (hn : l.length ≤ 1000000) :
    Calls Tryz.prog 83 #[.slice ao l.length c] w fun e w' => ∃ v, e = .returned v ∧ w'.ownsRow w.heap.size 22 1 v l.length (strCells l) ∧ Below w.heap.size w w' := by
  obtain ⟨i0, hi, hz0, hz1, hz2⟩ := info_parts infoRat
  have q : ∀ (w : World) (a : Option Addr) (n c n' c' : Nat), (binOp .eql 25 (.slice a n c) (.slice none n' c')).run Tryz.prog w = .ok (.bool a.isNone) w := fun w a n c n' c' => Lib.run_eql_slice_nil w _ _ a n c n' c' Tryz.underlying25
  cases ao with
  | none =>
    have hl : l = [] := by
      rcases hr.2.2 with ⟨h, -⟩ | ⟨b, off, h, -⟩
      · exact h
      · cases h
    have hc : c = 0 := by
      rcases hr.2.2 with ⟨-, h⟩ | ⟨b, off, h, -⟩
      · exact h rfl
      · cases h
    subst hl hc
    clear hr
    go_enter Tryz.func83, Tryz.ntmps83
    go_wp2
    refine bodyPost_ret (v := .slice none 0 0) (by simp [results, Tryz.results83, go_sem]) rfl ?_
    exact ⟨_, rfl, World.ownsRow_nil _ _ _ _, Below.refl _ _⟩
  | some ad =>
    have hget : ∀ j u, (strCells l)[j]? = some u → (w.alloc (Obj.cells #[] 22)).cell? (ad.add j) = some u := fun j u h => by
      rcases hr.2.2 with ⟨e, -⟩ | ⟨b, off, e, hlt, hc⟩
      · subst e; simp [strCells] at h
      · cases e
        have hj : j < l.length := by
          have := (List.getElem?_eq_some_iff.1 h).1
          rwa [strCells_length] at this
        rw [show ((⟨b, off, none⟩ : Addr).add j) = ⟨b, off + j, none⟩ by simp [Addr.add]]
        refine (World.cell?_alloc_lt _ _ _ hlt).trans ((hc j hj).trans ?_)
        rw [← h]; simp [strCells, hj]
    have hown := World.ownsRow_lit (base := w.heap.size) (e := 22) (size := 1) w #[] 0 (Nat.le_refl _) (by decide) rfl
    have HG := Lib.hid hget; clear hget hr
    generalize hlen : l.length = n at *
    go_enter Tryz.func83, Tryz.ntmps83
    go_wp2_with (at_builtin; refine wpList_append_own _ rfl _ _ 25 rfl w.heap.size 22 i0 (.string ⟨#[]⟩) 1 16 Tryz.underlying25 hi hz0 hz1 hz2 rfl (by decide) _ _ _ rfl hown ad n c (strCells l) rfl ?c1 ?c2 ?c3 ?c4 ?c5 (by simp) ?_)
    case c1 => rw [strCells_length, hlen]
    case c2 => exact HG.out
    case c3 => intro u hu; simp [strCells] at hu; obtain ⟨x, -, rfl⟩ := hu; rfl
    case c4 => unfold maxLen; omega
    case c5 => omega
    intro v' w1 hown' hgrow _
    go_wp2
    refine bodyPost_ret (v := v') (by simp [results, Tryz.results83, go_sem]) rfl ?_
    refine ⟨_, rfl, ?_, ?_⟩
    · rw [show n = 0 + n by omega]; simpa using hown'
    · exact ((Below.refl _ _).alloc (Nat.le_refl _) _).grown hgrow (by simp) (fun k hk => ((hown.lt k hk)).1)
end Go.Proofs.YtjobmkdaaionlaaGreatDoor

/-
  linear: blocks of strings, values of type Linear.
-/
namespace Go.Proofs.YtjobmkdaaionlaaGreatDoor
open Go Go.Proofs Go.RowKit

/-- A value of type api.Linear. -/
def LinV (w : World) (v : Value) (l : List ByteArray) (k : ByteArray) : Prop := ∃ ao c, v = .agg #[.slice ao l.length c, .string k] ∧ SRow w ao c l
theorem LinV.mono {w w' : World} {v : Value} {l : List ByteArray} {k : ByteArray} (h : LinV w v l k) (hb : Below w.heap.size w w') : LinV w' v l k := by
  obtain ⟨ao, c, e, hr⟩ := h; exact ⟨ao, c, e, hr.mono hb⟩
theorem SRow.nil (w : World) : SRow w none 0 [] := ⟨Nat.le_refl _, by decide, .inl ⟨rfl, fun _ => rfl⟩⟩
theorem LinV.zero (w : World) : LinV w (.agg #[.slice none 0 0, .string ⟨#[]⟩]) [] ⟨#[]⟩ := ⟨none, 0, rfl, SRow.nil w⟩

/-- A result: an expression and the number of an error. -/
structure LOut where
  l : List ByteArray
  k : ByteArray
  e : Nat
def LOut.bad (e : Nat) : LOut := ⟨[], ⟨#[]⟩, e⟩
/-- A row in a block from Bd on. -/
def RowB (Bd : Nat) (w : World) (ao : Option Addr) (c : Nat) (l : List ByteArray) : Prop := SRow w ao c l ∧ ∀ a, ao = some a → Bd ≤ a.block
theorem RowB.mono {Bd : Nat} {w w' : World} {ao : Option Addr} {c : Nat} {l : List ByteArray} (h : RowB Bd w ao c l) (hb : Below w.heap.size w w') : RowB Bd w' ao c l := ⟨h.1.mono hb, h.2⟩
theorem RowB.lower {B B' : Nat} {w : World} {ao : Option Addr} {c : Nat} {l : List ByteArray} (h : RowB B w ao c l) (hb : B' ≤ B) : RowB B' w ao c l := ⟨h.1, fun a ha => Nat.le_trans hb (h.2 a ha)⟩
theorem RowB.nil (Bd : Nat) (w : World) : RowB Bd w none 0 [] := ⟨SRow.nil w, fun _ h => by cases h⟩
theorem RowB.set {Bd : Nat} {w : World} {ao : Option Addr} {c : Nat} {l : List ByteArray} (h : RowB Bd w ao c l) {p : Nat} (hp : p < Bd) (o : Nat) (v : Value) : RowB Bd (w.setCell ⟨p, o, none⟩ v) ao c l := by
  obtain ⟨⟨h1, h2, h3⟩, h4⟩ := h
  refine ⟨⟨h1, h2, ?_⟩, h4⟩
  rcases h3 with h3 | ⟨b, off, rfl, hlt, hc⟩
  · exact .inl h3
  · have hb := h4 _ rfl
    refine .inr ⟨b, off, rfl, by simpa using hlt, fun k hk => ?_⟩
    rw [World.cell?_setCell_other w ⟨p, o, none⟩ ⟨b, off + k, none⟩ v (by intro e; injection e with e; simp at hb; omega)]
    exact hc k hk
theorem RowB.drew {Bd : Nat} {w : World} {ao : Option Addr} {c : Nat} {l : List ByteArray} (h : RowB Bd w ao c l) : RowB Bd w.drew ao c l := h
def LinRet (Bd : Nat) (o : LOut) (w : World) (e : Ending) (w' : World) : Prop := ∃ ao c, e = .returned (.tuple #[.agg #[.slice ao o.l.length c, .string o.k], .int .i64 (o.e : Nat)]) ∧ RowB Bd w' ao c o.l ∧ Below w.heap.size w w'

/-- Block b begins with the strings l. -/
def SBlk (T : TypeId) (w : World) (b : Nat) (l : List ByteArray) : Prop := ∃ R : List Value, w.heap[b]? = some (.cells (strCells l ++ R).toArray T (0, 0))
theorem SBlk.lt {T : TypeId} {w : World} {b : Nat} {l : List ByteArray} (h : SBlk T w b l) : b < w.heap.size := by obtain ⟨R, h⟩ := h; exact (Array.getElem?_eq_some_iff.1 h).1
theorem SBlk.cell {T : TypeId} {w : World} {b : Nat} {l : List ByteArray} (h : SBlk T w b l) (k : Nat) (hk : k < l.length) : w.cell? ⟨b, k, none⟩ = some (.string (l[k]'hk)) := by
  obtain ⟨R, h⟩ := h
  have e : w.cell? ⟨b, k, none⟩ = (strCells l ++ R).toArray[k]? := by simp [World.cell?, h]
  rw [e]
  simp only [List.getElem?_toArray]
  rw [List.getElem?_append_left (by rw [strCells_length]; exact hk)]
  simp [strCells, hk]
theorem SBlk.frozen {T : TypeId} {w : World} {b : Nat} {l : List ByteArray} (h : SBlk T w b l) (k : Nat) : w.frozen? ⟨b, k, none⟩ = false := by
  obtain ⟨R, h⟩ := h; simp [World.frozen?, h]
theorem SBlk.set {T : TypeId} {w : World} {b : Nat} {l : List ByteArray} (h : SBlk T w b l) (k : Nat) (hk : k < l.length) (s : ByteArray) : SBlk T (w.setCell ⟨b, k, none⟩ (.string s)) b (l.set k s) := by
  obtain ⟨R, h⟩ := h
  have hlt := (Array.getElem?_eq_some_iff.1 h).1
  have h' : w.heap[b] = .cells (strCells l ++ R).toArray T (0, 0) := by simpa [Array.getElem?_eq_getElem hlt] using h
  have e : (w.setCell ⟨b, k, none⟩ (.string s)).heap[b]? = some (.cells ((strCells l ++ R).set k (.string s)).toArray T (0, 0)) := by
    show (w.heap.modify b _)[b]? = _
    rw [Array.getElem?_eq_getElem (by simpa using hlt), Array.getElem_modify_self, h']
    simp
  refine ⟨R, ?_⟩
  rw [e, List.set_append_left _ _ (by rw [strCells_length]; exact hk)]
  simp [strCells, List.map_set]
theorem SBlk.keep {T : TypeId} {w w' : World} {b : Nat} {l : List ByteArray} (h : SBlk T w b l) (hb : Below w.heap.size w w') : SBlk T w' b l := by
  have hl := h.lt
  obtain ⟨R, h⟩ := h
  exact ⟨R, by rw [hb.block b hl]; exact h⟩
theorem SBlk.row {T : TypeId} {w : World} {b c : Nat} {l : List ByteArray} (h : SBlk T w b l) (hc : l.length ≤ c) (hm : c ≤ 9223372036854775807) : SRow w (some ⟨b, 0, none⟩) c l :=
  ⟨hc, hm, .inr ⟨b, 0, rfl, h.lt, fun k hk => by rw [Nat.zero_add]; exact h.cell k hk⟩⟩
theorem SBlk.owns {T : TypeId} {w : World} {b : Nat} {l : List ByteArray} (h : w.heap[b]? = some (.cells (strCells l).toArray T (0, 0))) (hm : l.length ≤ maxLen) (B : Nat) (hB : B ≤ b) : w.ownsRow B T 1 (.slice (some ⟨b, 0, none⟩) l.length l.length) l.length (strCells l) :=
  ⟨by rw [strCells_length]; omega, .inr ⟨b, l.length, _, rfl, hB, h, Nat.le_refl _, hm, by simp [strCells_length], by rw [List.take_of_length_le (by simp [strCells_length])]⟩⟩
/-- What 'append' leaves. -/
theorem sblk_of_owns {T : TypeId} {w : World} {base g n c : Nat} {l : List ByteArray} (h : w.ownsRow base T 1 (.slice (some ⟨g, 0, none⟩) n c) n (strCells l)) : SBlk T w g l ∧ l.length = n ∧ n ≤ c ∧ c ≤ 9223372036854775807 ∧ base ≤ g := by
  obtain ⟨h1, h2⟩ := h
  rw [strCells_length] at h1
  rcases h2 with ⟨h2, -⟩ | ⟨g', cap, cur, he, hb, hg, hle, hm, hs, ht⟩
  · simp at h2
  · injection he with e1 e2 e3
    injection e1 with e1; injection e1 with e1 _ _
    subst e1; subst e3
    refine ⟨⟨cur.toList.drop (n * 1), ?_⟩, by omega, hle, by unfold maxLen at hm; omega, hb⟩
    rw [hg, ← ht, List.take_append_drop]
theorem made_heap {T : TypeId} {w : World} {base g n : Nat} (h : w.ownsRow base T 1 (.slice (some ⟨g, 0, none⟩) n n) n (madeCells #[Value.string ⟨#[]⟩] n).toList) : w.heap[g]? = some (.cells (List.replicate n (Value.string ⟨#[]⟩)).toArray T (0, 0)) := by
  have e : (madeCells #[Value.string ⟨#[]⟩] n).toList = List.replicate n (Value.string ⟨#[]⟩) :=
    List.ext_getElem (by simp [madeCells]) fun i h3 h4 => by simp [madeCells, Nat.mod_one]
  rw [e] at h
  rcases h.2 with ⟨h2, -⟩ | ⟨g', cap, cur, he, hb, hg, hle, hm, hs, ht⟩
  · simp at h2
  · injection he with e1 e2 e3
    injection e1 with e1; injection e1 with e1 _ _
    subst e1; subst e3
    rw [hg, ← ht, List.take_of_length_le (by simp; omega)]
/-- Block b holds exactly the strings l. -/
def XBlk (T : TypeId) (w : World) (b : Nat) (l : List ByteArray) : Prop := w.heap[b]? = some (.cells (strCells l).toArray T (0, 0))
theorem XBlk.s {T : TypeId} {w : World} {b : Nat} {l : List ByteArray} (h : XBlk T w b l) : SBlk T w b l := ⟨[], by rw [List.append_nil]; exact h⟩
theorem XBlk.lt {T : TypeId} {w : World} {b : Nat} {l : List ByteArray} (h : XBlk T w b l) : b < w.heap.size := h.s.lt
theorem XBlk.cell {T : TypeId} {w : World} {b : Nat} {l : List ByteArray} (h : XBlk T w b l) (k : Nat) (hk : k < l.length) : w.cell? ⟨b, k, none⟩ = some (.string (l[k]'hk)) := h.s.cell k hk
theorem XBlk.frozen {T : TypeId} {w : World} {b : Nat} {l : List ByteArray} (h : XBlk T w b l) (k : Nat) : w.frozen? ⟨b, k, none⟩ = false := h.s.frozen k
theorem XBlk.set {T : TypeId} {w : World} {b : Nat} {l : List ByteArray} (h : XBlk T w b l) (k : Nat) (_hk : k < l.length) (s : ByteArray) : XBlk T (w.setCell ⟨b, k, none⟩ (.string s)) b (l.set k s) := by
  have hlt := (Array.getElem?_eq_some_iff.1 h).1
  have h' : w.heap[b] = .cells (strCells l).toArray T (0, 0) := by
    have := h; unfold XBlk at this; simpa [Array.getElem?_eq_getElem hlt] using this
  show (w.heap.modify b _)[b]? = _
  rw [Array.getElem?_eq_getElem (by simpa using hlt), Array.getElem_modify_self, h']
  simp [strCells, List.map_set]
theorem XBlk.keep {T : TypeId} {w w' : World} {b : Nat} {l : List ByteArray} (h : XBlk T w b l) (hb : Below w.heap.size w w') : XBlk T w' b l := by
  have := hb.block b h.lt; unfold XBlk at *; rw [this]; exact h
theorem XBlk.row {T : TypeId} {w : World} {b c : Nat} {l : List ByteArray} (h : XBlk T w b l) (hc : l.length ≤ c) (hm : c ≤ 9223372036854775807) : SRow w (some ⟨b, 0, none⟩) c l := h.s.row hc hm
theorem XBlk.owns {T : TypeId} {w : World} {b : Nat} {l : List ByteArray} (h : XBlk T w b l) (hm : l.length ≤ maxLen) (B : Nat) (hB : B ≤ b) : w.ownsRow B T 1 (.slice (some ⟨b, 0, none⟩) l.length l.length) l.length (strCells l) := SBlk.owns h hm B hB
theorem xblk_of_made {T : TypeId} {w : World} {base g n : Nat} (h : w.ownsRow base T 1 (.slice (some ⟨g, 0, none⟩) n n) n (madeCells #[Value.string ⟨#[]⟩] n).toList) : XBlk T w g (List.replicate n ⟨#[]⟩) := by
  have := made_heap h
  unfold XBlk strCells
  rw [this, List.map_replicate]
theorem srow_of_ownsT {T : TypeId} {w : World} {base : Nat} {v : Value} {l : List ByteArray} (h : w.ownsRow base T 1 v l.length (strCells l)) : ∃ ao c, v = .slice ao l.length c ∧ SRow w ao c l := by
  rcases h.2 with ⟨rfl, h0⟩ | ⟨g, cap, cur, rfl, -, hg, h1, h2, h3, h4⟩
  · have : l = [] := List.length_eq_zero_iff.1 h0
    subst this
    exact ⟨none, 0, rfl, by simp, by decide, .inl ⟨rfl, fun _ => rfl⟩⟩
  · refine ⟨_, cap, rfl, h1, h2, .inr ⟨g, 0, rfl, (Array.getElem?_eq_some_iff.1 hg).1, fun k hk => ?_⟩⟩
    rw [Nat.zero_add, h.cellAt k (by omega)]
    simp [strCells, hk]
/-- What a list that is being filled holds. -/
def fillL (g : Nat → ByteArray) (j n : Nat) : List ByteArray := (List.range j).map g ++ List.replicate (n - j) ⟨#[]⟩
theorem fillL_length (g : Nat → ByteArray) {j n : Nat} (h : j ≤ n) : (fillL g j n).length = n := by simp [fillL]; omega
theorem fillL_zero (g : Nat → ByteArray) (n : Nat) : fillL g 0 n = List.replicate n ⟨#[]⟩ := by simp [fillL]
theorem fillL_all (g : Nat → ByteArray) (n : Nat) : fillL g n n = (List.range n).map g := by simp [fillL]
theorem fillL_set (g : Nat → ByteArray) {j n : Nat} (h : j < n) : (fillL g j n).set j (g j) = fillL g (j + 1) n := by
  unfold fillL
  rw [List.set_append_right _ _ (by simp), List.range_succ, List.map_append, List.append_assoc]
  simp only [List.length_map, List.length_range, Nat.sub_self]
  congr 1
  rw [show n - j = (n - (j + 1)) + 1 by omega, List.replicate_succ]
  simp

/-- A box of two cells that was written whole. -/
theorem box2 {w : World} {p : Nat} {u0 u1 : Value} (h0 : w.cell? ⟨p, 0, none⟩ = some u0) (h1 : w.cell? ⟨p, 1, none⟩ = some u1) (v0 v1 : Value) :
    ((w.setCell ⟨p, 0, none⟩ v0).setCell ⟨p, 1, none⟩ v1).cell? ⟨p, 0, none⟩ = some v0 ∧ ((w.setCell ⟨p, 0, none⟩ v0).setCell ⟨p, 1, none⟩ v1).cell? ⟨p, 1, none⟩ = some v1 := by
  have e1 : (w.setCell ⟨p, 0, none⟩ v0).cell? ⟨p, 1, none⟩ = some u1 := (World.cell?_setCell_other w ⟨p, 0, none⟩ ⟨p, 1, none⟩ v0 (by simp)).trans h1
  exact ⟨(World.cell?_setCell_other _ ⟨p, 1, none⟩ ⟨p, 0, none⟩ v1 (by simp)).trans (cellSet h0 v0), cellSet e1 v1⟩
theorem below2 {a w : World} {p : Nat} (h : Below a.heap.size a w) (hp : a.heap.size ≤ p) (v0 v1 : Value) : Below a.heap.size a ((w.setCell ⟨p, 0, none⟩ v0).setCell ⟨p, 1, none⟩ v1) :=
  (h.setCell hp v0).setCell hp v1
end Go.Proofs.YtjobmkdaaionlaaGreatDoor

/-
  linear: zeros.
-/
set_option linter.unusedSimpArgs false
namespace Go.Proofs.YtjobmkdaaionlaaGreatDoor
open Go Go.Proofs Go.RowKit

/-- The block of a list that is being filled by doubling. -/
def rep (z : ByteArray) (k n : Nat) : List Value := List.replicate k (Value.string z) ++ List.replicate (n - k) (Value.string ⟨#[]⟩)
theorem rep_zero (z : ByteArray) (n : Nat) : rep z 0 n = List.replicate n (Value.string ⟨#[]⟩) := by simp [rep]
theorem rep_length (z : ByteArray) {k n : Nat} (h : k ≤ n) : (rep z k n).length = n := by simp [rep]; omega
theorem rep_all (z : ByteArray) (n : Nat) : rep z n n = strCells (List.replicate n z) := by simp [rep, strCells]
theorem rep_splice (z : ByteArray) {k n m : Nat} (h : k + m ≤ n) : splice (rep z k n) k (List.replicate m (Value.string z)) = rep z (k + m) n := by
  unfold splice rep
  rw [List.take_append_of_le_length (by simp), List.take_of_length_le (by simp), List.length_replicate, List.drop_append, List.drop_eq_nil_of_le (by simp), List.nil_append, List.length_replicate, List.drop_replicate, ← List.append_assoc, List.replicate_append_replicate]
  congr 2
  omega
theorem rep_cell {w : World} {T : TypeId} {g : Nat} {z : ByteArray} {k n : Nat} (h : w.heap[g]? = some (.cells (rep z k n).toArray T (0, 0))) (j : Nat) (hj : j < k) : w.cell? ⟨g, j, none⟩ = some (.string z) := by
  have e : w.cell? ⟨g, j, none⟩ = (rep z k n).toArray[j]? := by simp [World.cell?, h]
  rw [e]
  simp only [List.getElem?_toArray]
  unfold rep
  rw [List.getElem?_append_left (by simpa using hj)]
  simp [hj]

theorem sizeRat : (Tryz.prog.info? 22).map (·.size) = some 1 := by kernel_rfl
theorem addr_plus (g o j : Nat) : ((⟨g, o, none⟩ : Addr).add j) = ⟨g, o + j, none⟩ := by simp [Addr.add]
theorem addr_zero (g j : Nat) : ((⟨g, 0, none⟩ : Addr).add j) = ⟨g, j, none⟩ := by rw [addr_plus, Nat.zero_add]
set_option maxRecDepth 20000 in
set_option maxHeartbeats 4000000 in
theorem repeat_any (n b : Nat) (z : ByteArray) (w : World) (hn : n ≤ 1000) (hc : w.cell? ⟨b, 0, none⟩ = some (.string z)) (hb : b < w.heap.size) :
    Calls Tryz.prog 80 #[.slice (some ⟨b, 0, none⟩) 1 1, .int .i64 n] w fun e w' => ∃ g, e = .returned (.slice (some ⟨g, 0, none⟩) n n) ∧ w'.heap[g]? = some (.cells (strCells (List.replicate n z)).toArray 22 (0, 0)) ∧ w.heap.size ≤ g ∧ Below w.heap.size w w' := by
  obtain ⟨i0, hi, hz0, hz1, hz2⟩ := info_parts infoRat
  have C : ∀ W : World, Calls Tryz.prog 104 #[.int .u64 1, .int .u64 n] W fun e w' => e = .returned (.tuple #[.int .u64 0, .int .u64 n]) ∧ w' = W := fun W => by
    have := Tryz.bits_Mul 1 n (by decide) (by omega) W
    rw [Nat.one_mul, Nat.div_eq_of_lt (by omega), Nat.mod_eq_of_lt (by omega)] at this
    exact this
  have hcW : ∀ W, Below w.heap.size w W → W.cell? ⟨b, 0, none⟩ = some (.string z) := fun W hW => (hW.cell (p := ⟨b, 0, none⟩) hb).trans hc
  have KC := Lib.hid C; have HCW := Lib.hid hcW; clear C hcW hc
  go_enter Tryz.func80, Tryz.ntmps80
  go_wp2_with (go_at_call 104; refine (KC.out _).mono ?_; rintro e w1 ⟨rfl, rfl⟩)
  obtain ⟨W0, hrun, hown, hg⟩ := run_make_full (P := Tryz.prog) w1 w1.heap.size 25 22 i0 (.string ⟨#[]⟩) 1 Tryz.underlying25 hi hz0 hz1 .i64 .i64 n (by rw [hz2]; omega) (by unfold maxLen; omega) (Nat.le_refl _)
  rw [hrun]
  rw [Nat.mul_one] at hown
  have hb0 := made_heap (T := 22) (n := n) hown
  have hB := below_of_grown hg
  clear hown hg hrun
  generalize hgg : w1.heap.size = g at hb0 ⊢
  have hcc := HCW.out W0 hB
  have HG := Lib.hid hgg; have HB := Lib.hid hB; have HB0 := Lib.hid hb0; clear hgg hB hb0
  have hgg : w1.heap.size ≤ g := by have := HG.out; omega
  have HGG := Lib.hid hgg; clear hgg
  rcases Nat.eq_zero_or_pos n with rfl | hn0
  · go_wp2_with (with_reducible refine wpList_copy_splice rfl (.tmp 31) (.tmp 32) _ _ rfl 22 Tryz.underlying25 (by kernel_rfl) _ _ _ _ _ _ rfl rfl g 0 (List.replicate 0 (.string ⟨#[]⟩)) 22 HB0.out [] rfl (by simp) (by simp) (by simp) w1.heap.size w1 HB.out HGG.out ?_)
    intro w2 hg2 hb2
    have HB2 := Lib.hid hb2; clear hb2
    go_wp2_with fail
    go_loopw [8] (fun iv wr => iv = .int .i64 0 ∧ wr = w2) (fun _ _ => 0)
    case atStart => exact ⟨rfl, rfl⟩
    case round =>
      obtain ⟨rfl, rfl⟩ := hrel
      go_wp2
      refine bodyPost_ret (v := .slice (some ⟨g, 0, none⟩) 0 0) (by simp [results, Tryz.results80, go_sem]) rfl ?_
      refine ⟨g, rfl, ?_, HGG.out, HB2.out⟩
      have := hg2.out
      rw [this]; rfl
  · have hone : ∀ v ∈ [Value.string z], v.oneCell' = true := by intro v hv; simp at hv; subst hv; rfl
    have hsrc : ∀ (j : Nat) (v : Value), [Value.string z][j]? = some v → W0.cell? ((⟨b, 0, none⟩ : Addr).add j) = some v := by
      intro j v hv
      match j, hv with
      | 0, hv => simp at hv; subst hv; exact hcc
    go_wp2_with (with_reducible refine wpList_copy_splice rfl (.tmp 31) (.tmp 32) _ _ rfl 22 Tryz.underlying25 (by kernel_rfl) _ _ _ _ _ _ rfl rfl g 0 (List.replicate n (.string ⟨#[]⟩)) 22 HB0.out [.string z] (by simp [Nat.min_def]; omega) (fun _ => ⟨rfl, _, rfl, hsrc⟩) (by simp; omega) hone w1.heap.size w1 HB.out HGG.out ?_)
    intro w2 hg2 hb2
    have e2 : splice (List.replicate n (Value.string ⟨#[]⟩)) 0 [Value.string z] = rep z 1 n := by rw [← rep_zero z n]; exact rep_splice z (k := 0) (m := 1) (by omega)
    have h2 := hg2.out
    rw [e2] at h2
    have H2 := Lib.hid h2; have HB2 := Lib.hid hb2; clear hb2 h2 e2 hone hsrc hg2
    go_wp2_with fail
    go_loopw [8] (fun iv wr => ∃ k : Nat, k ≤ n ∧ 0 < k ∧ iv = .int .i64 k ∧ wr.heap[g]? = some (.cells (rep z k n).toArray 22 (0, 0)) ∧ Below w1.heap.size w1 wr) (fun iv _ => n - (intOf iv).toNat)
    case atStart => exact ⟨1, by omega, by omega, rfl, H2.out, HB2.out⟩
    case round =>
      obtain ⟨k, hk, hk0, rfl, hr, hbw⟩ := hrel
      have HR := Lib.hid hr; have HBW := Lib.hid hbw; clear hr hbw
      by_cases hlt : k < n
      · have hpos : 0 < (List.replicate (Nat.min k (n - k)) (Value.string z)).length → (some (⟨g, k, none⟩ : Addr)) = some ⟨g, k, none⟩ ∧ ∃ ad, (some (⟨g, 0, none⟩ : Addr)) = some ad ∧ ∀ (j : Nat) (v : Value), (List.replicate (Nat.min k (n - k)) (Value.string z))[j]? = some v → wr.drew.cell? (ad.add j) = some v := by
          intro _
          refine ⟨rfl, _, rfl, fun j v hv => ?_⟩
          have hj := (List.getElem?_eq_some_iff.1 hv).1
          simp at hj
          have hv' : v = .string z := by
            have := List.mem_of_getElem? hv
            exact List.eq_of_mem_replicate this
          subst hv'
          rw [addr_zero g j]
          exact rep_cell (w := wr) HR.out j (by have : Nat.min k (n - k) ≤ k := Nat.min_le_left _ _; omega)
        have hfit : k + (List.replicate (Nat.min k (n - k)) (Value.string z)).length ≤ (rep z k n).length := by
          rw [rep_length z hk]; simp; have : Nat.min k (n - k) ≤ n - k := Nat.min_le_right _ _; omega
        have hone : ∀ v ∈ List.replicate (Nat.min k (n - k)) (Value.string z), v.oneCell' = true := by intro v hv; obtain rfl := List.eq_of_mem_replicate hv; rfl
        have hm1 : Nat.min k (n - k) ≤ n - k := Nat.min_le_right _ _
        have hm0 : 0 < Nat.min k (n - k) := Nat.lt_min.2 ⟨hk0, by omega⟩
        have hsp := rep_splice z (k := k) (n := n) (m := Nat.min k (n - k)) (by omega)
        have HPOS := Lib.hid hpos; have HFIT := Lib.hid hfit; have HONE := Lib.hid hone; have HSP := Lib.hid hsp; clear hpos hfit hone hsp
        generalize hmm : Nat.min k (n - k) = m at *
        have hlen : (List.replicate m (Value.string z)).length = Nat.min k (n - k) := by rw [List.length_replicate]; exact hmm.symm
        have HLEN := Lib.hid hlen; clear hmm hlen
        have hnk : ¬ n = k := by omega
        have q0 : (0 : Int) ≤ (k : Int) := by omega
        have q1 : (k : Int) ≤ (n : Int) := by omega
        have q2 : IntKind.i64.wrap ((k : Int) + (m : Int)) = ((k + m : Nat) : Int) := by rw [IntKind.wrap_i64]; omega
        have hrd : wr.drew.heap[g]? = some (.cells (rep z k n).toArray 22 (0, 0)) := HR.out
        have HRD := Lib.hid hrd; have HBD := Lib.hid HBW.out.drew; clear hrd
        go_wp2_with fail
        go_region_held3 (fun _ => True) (exact trivial) ((refine step_copy_splice (by rfl) (.tmp 41) (.tmp 44) 25 25 (by rfl) 22 Tryz.underlying25 sizeRat (some ⟨g, k, none⟩) (some ⟨g, 0, none⟩) (n - k) (n - k) k n (by simp [Act.eval, Act.put]) (by simp [Act.eval, Act.put]) g k (rep z k n) 22 HRD.out (List.replicate m (.string z)) HLEN.out (fun h => ⟨rfl, (HPOS.out h).2⟩) HFIT.out HONE.out w1.heap.size w1 HBD.out HGG.out ?_; intro w4 hg4 hb4))
        have h4 := hg4.out
        rw [HSP.out] at h4
        have H4 := Lib.hid h4; have HB4 := Lib.hid hb4; clear h4 hg4 hb4 q2
        go_wp2
        go_roundw
        case rel => exact ⟨k + m, by omega, by omega, by go_num, H4.out, HB4.out⟩
        case measure => simp [intOf]; omega
      · have hkn : k = n := by omega
        subst hkn
        have HR2 := Lib.hid (rep_all z k ▸ HR.out)
        go_wp2
        refine bodyPost_ret (v := .slice (some ⟨g, 0, none⟩) k k) (by simp [results, Tryz.results80, go_sem]) rfl ?_
        exact ⟨g, rfl, HR2.out, HGG.out, HBW.out⟩
end Go.Proofs.YtjobmkdaaionlaaGreatDoor

/-
  linear: mapped, over each of its closures.
-/
set_option linter.unusedSimpArgs false
namespace Go.Proofs.YtjobmkdaaionlaaGreatDoor
open Go Go.Proofs Go.RowKit

theorem infoInt : (Tryz.prog.info? 41).map (fun i => (i.zero, i.size, i.bytes)) = some (some (.string ⟨#[]⟩), 1, 16) := by kernel_rfl

set_option maxRecDepth 20000 in
set_option maxHeartbeats 4000000 in
theorem mapped_sum (l : List ByteArray) (G : Nat → ByteArray) (ao : Option Addr) (c : Nat) (p : Value) (w : World) (hr : SRow w ao c l) (hn : l.length ≤ 1000)
    (hK : ∀ (j : Nat) (hj : j < l.length) (W : World), Below w.heap.size w W → Calls Tryz.prog 82 #[.int .i64 (j : Int), .string (l[j]'hj), p] W (Bret (.string (G j)) W)) :
    Calls Tryz.prog 81 #[.slice ao l.length c, .func (.func 82) #[] #[p]] w fun e w' => ∃ b, e = .returned (.slice (some ⟨b, 0, none⟩) l.length l.length) ∧ XBlk 22 w' b ((List.range l.length).map G) ∧ w.heap.size ≤ b ∧ Below w.heap.size w w' := by
  obtain ⟨i0, hi, hz0, hz1, hz2⟩ := info_parts infoRat
  have hg : ∀ W, Below w.heap.size w W → ∀ j (hj : j < l.length), ∃ b off, ao = some ⟨b, off, none⟩ ∧ b < W.heap.size ∧ W.cell? ⟨b, off + j, none⟩ = some (.string (l[j]'hj)) := fun W hW => (hr.mono hW).get
  have HGET := Lib.hid hg; have HK := Lib.hid hK
  clear hg hK hr
  generalize hlen : l.length = n at hn ⊢
  have HLEN := Lib.hid hlen; clear hlen
  go_enter Tryz.func81, Tryz.ntmps81
  go_wp2_with (at_make; refine wpList_make_full _ rfl _ _ 25 rfl w.heap.size 22 i0 (.string ⟨#[]⟩) 1 Tryz.underlying25 hi hz0 hz1 .i64 .i64 _ _ n rfl rfl ?a1 ?a2 ?a3 ?a4 ?a5 ?_)
  case a1 => rfl
  case a2 => rfl
  case a3 => rw [hz2]; omega
  case a4 => unfold maxLen; omega
  case a5 => exact Nat.le_refl _
  intro W0 hown hgr
  have hb0 := xblk_of_made hown
  have hB := below_of_grown hgr
  clear hown hgr
  generalize hgg : w.heap.size = g at hb0 ⊢
  have HG := Lib.hid hgg; have HB := Lib.hid hB; have HB0 := Lib.hid hb0; clear hgg hB hb0
  go_wp2_with fail
  go_loopw [13] (fun iv wr => ∃ j : Nat, j ≤ n ∧ iv = .int .i64 j ∧ XBlk 22 wr g (fillL G j n) ∧ W0.grownBy wr (some g)) (fun iv _ => n - (intOf iv).toNat)
  case atStart => exact ⟨0, Nat.zero_le _, rfl, by rw [fillL_zero]; exact HB0.out, grown_refl _ _⟩
  case round =>
    obtain ⟨j, hj, rfl, hbl, hgr⟩ := hrel
    have hbw : Below w.heap.size w wr := below_grown HB.out hgr (by have := HG.out; omega)
    have HBL := Lib.hid hbl; have HGR := Lib.hid hgr; have HBW := Lib.hid hbw
    clear hbl hgr hbw
    by_cases hlt : j < n
    · have hlt' : j < l.length := by rw [HLEN.out]; exact hlt
      obtain ⟨b, off, rfl, hbl, ck⟩ := HGET.out wr HBW.out j hlt'
      have C := HK.out j hlt' wr HBW.out
      have hset := fillL_set G hlt
      have hfl := fillL_length G hj
      generalize l[j]'hlt' = sk at *
      have KC := Lib.hid C; have HSET := Lib.hid hset; have HFL := Lib.hid hfl; clear C hset hfl
      go_wp2_with (go_at_call 82; refine KC.out.mono ?_; rintro e w3 ⟨rfl, hb3⟩; refine Hid.out ?_)
      have B3 := HBL.out.keep hb3
      have cs := B3.cell j (by rw [HFL.out]; exact hlt)
      have fs := B3.frozen j
      have hs := B3.set j (by rw [HFL.out]; exact hlt) (G j)
      rw [HSET.out] at hs
      have HSE := Lib.hid hs; have HG3 := Lib.hid (grown_set (grown_below HGR.out hb3) j (.string (G j))); clear hs B3 hb3
      generalize (fillL G j n)[j]'_ = old at cs
      refine Lib.hid ?_
      go_wp2
      go_roundw
      case rel => exact ⟨j + 1, by omega, by go_num, HSE.out, HG3.out⟩
      case measure => simp [intOf]; omega
    · have hjn : j = n := by omega
      subst hjn
      have h1 := HBL.out
      rw [fillL_all] at h1
      have H1 := Lib.hid h1; clear h1
      go_wp2
      refine bodyPost_ret (v := .slice (some ⟨g, 0, none⟩) j j) (by simp [results, Tryz.results81, go_sem]) rfl ?_
      exact ⟨g, rfl, H1.out, by have := HG.out; omega, HBW.out⟩

set_option maxRecDepth 20000 in
set_option maxHeartbeats 4000000 in
theorem mapped_multiple (l : List ByteArray) (G : Nat → ByteArray) (ao : Option Addr) (c : Nat) (p : Value) (w : World) (hr : SRow w ao c l) (hn : l.length ≤ 1000)
    (hK : ∀ (j : Nat) (hj : j < l.length) (W : World), Below w.heap.size w W → Calls Tryz.prog 96 #[.int .i64 (j : Int), .string (l[j]'hj), p] W (Bret (.string (G j)) W)) :
    Calls Tryz.prog 81 #[.slice ao l.length c, .func (.func 96) #[] #[p]] w fun e w' => ∃ b, e = .returned (.slice (some ⟨b, 0, none⟩) l.length l.length) ∧ XBlk 22 w' b ((List.range l.length).map G) ∧ w.heap.size ≤ b ∧ Below w.heap.size w w' := by
  obtain ⟨i0, hi, hz0, hz1, hz2⟩ := info_parts infoRat
  have hg : ∀ W, Below w.heap.size w W → ∀ j (hj : j < l.length), ∃ b off, ao = some ⟨b, off, none⟩ ∧ b < W.heap.size ∧ W.cell? ⟨b, off + j, none⟩ = some (.string (l[j]'hj)) := fun W hW => (hr.mono hW).get
  have HGET := Lib.hid hg; have HK := Lib.hid hK
  clear hg hK hr
  generalize hlen : l.length = n at hn ⊢
  have HLEN := Lib.hid hlen; clear hlen
  go_enter Tryz.func81, Tryz.ntmps81
  go_wp2_with (at_make; refine wpList_make_full _ rfl _ _ 25 rfl w.heap.size 22 i0 (.string ⟨#[]⟩) 1 Tryz.underlying25 hi hz0 hz1 .i64 .i64 _ _ n rfl rfl ?a1 ?a2 ?a3 ?a4 ?a5 ?_)
  case a1 => rfl
  case a2 => rfl
  case a3 => rw [hz2]; omega
  case a4 => unfold maxLen; omega
  case a5 => exact Nat.le_refl _
  intro W0 hown hgr
  have hb0 := xblk_of_made hown
  have hB := below_of_grown hgr
  clear hown hgr
  generalize hgg : w.heap.size = g at hb0 ⊢
  have HG := Lib.hid hgg; have HB := Lib.hid hB; have HB0 := Lib.hid hb0; clear hgg hB hb0
  go_wp2_with fail
  go_loopw [13] (fun iv wr => ∃ j : Nat, j ≤ n ∧ iv = .int .i64 j ∧ XBlk 22 wr g (fillL G j n) ∧ W0.grownBy wr (some g)) (fun iv _ => n - (intOf iv).toNat)
  case atStart => exact ⟨0, Nat.zero_le _, rfl, by rw [fillL_zero]; exact HB0.out, grown_refl _ _⟩
  case round =>
    obtain ⟨j, hj, rfl, hbl, hgr⟩ := hrel
    have hbw : Below w.heap.size w wr := below_grown HB.out hgr (by have := HG.out; omega)
    have HBL := Lib.hid hbl; have HGR := Lib.hid hgr; have HBW := Lib.hid hbw
    clear hbl hgr hbw
    by_cases hlt : j < n
    · have hlt' : j < l.length := by rw [HLEN.out]; exact hlt
      obtain ⟨b, off, rfl, hbl, ck⟩ := HGET.out wr HBW.out j hlt'
      have C := HK.out j hlt' wr HBW.out
      have hset := fillL_set G hlt
      have hfl := fillL_length G hj
      generalize l[j]'hlt' = sk at *
      have KC := Lib.hid C; have HSET := Lib.hid hset; have HFL := Lib.hid hfl; clear C hset hfl
      go_wp2_with (go_at_call 96; refine KC.out.mono ?_; rintro e w3 ⟨rfl, hb3⟩; refine Hid.out ?_)
      have B3 := HBL.out.keep hb3
      have cs := B3.cell j (by rw [HFL.out]; exact hlt)
      have fs := B3.frozen j
      have hs := B3.set j (by rw [HFL.out]; exact hlt) (G j)
      rw [HSET.out] at hs
      have HSE := Lib.hid hs; have HG3 := Lib.hid (grown_set (grown_below HGR.out hb3) j (.string (G j))); clear hs B3 hb3
      generalize (fillL G j n)[j]'_ = old at cs
      refine Lib.hid ?_
      go_wp2
      go_roundw
      case rel => exact ⟨j + 1, by omega, by go_num, HSE.out, HG3.out⟩
      case measure => simp [intOf]; omega
    · have hjn : j = n := by omega
      subst hjn
      have h1 := HBL.out
      rw [fillL_all] at h1
      have H1 := Lib.hid h1; clear h1
      go_wp2
      refine bodyPost_ret (v := .slice (some ⟨g, 0, none⟩) j j) (by simp [results, Tryz.results81, go_sem]) rfl ?_
      exact ⟨g, rfl, H1.out, by have := HG.out; omega, HBW.out⟩

set_option maxRecDepth 20000 in
set_option maxHeartbeats 4000000 in
theorem mapped_integral (l : List ByteArray) (G : Nat → ByteArray) (ao : Option Addr) (c : Nat) (p : Value) (w : World) (hr : SRow w ao c l) (hn : l.length ≤ 1000)
    (hK : ∀ (j : Nat) (hj : j < l.length) (W : World), Below w.heap.size w W → Calls Tryz.prog 60 #[.int .i64 (j : Int), .string (l[j]'hj), p] W (Bret (.string (G j)) W)) :
    Calls Tryz.prog 59 #[.slice ao l.length c, .func (.func 60) #[] #[p]] w fun e w' => ∃ b, e = .returned (.slice (some ⟨b, 0, none⟩) l.length l.length) ∧ XBlk 41 w' b ((List.range l.length).map G) ∧ w.heap.size ≤ b ∧ Below w.heap.size w w' := by
  obtain ⟨i0, hi, hz0, hz1, hz2⟩ := info_parts infoInt
  have hg : ∀ W, Below w.heap.size w W → ∀ j (hj : j < l.length), ∃ b off, ao = some ⟨b, off, none⟩ ∧ b < W.heap.size ∧ W.cell? ⟨b, off + j, none⟩ = some (.string (l[j]'hj)) := fun W hW => (hr.mono hW).get
  have HGET := Lib.hid hg; have HK := Lib.hid hK
  clear hg hK hr
  generalize hlen : l.length = n at hn ⊢
  have HLEN := Lib.hid hlen; clear hlen
  go_enter Tryz.func59, Tryz.ntmps59
  go_wp2_with (at_make; refine wpList_make_full _ rfl _ _ 40 rfl w.heap.size 41 i0 (.string ⟨#[]⟩) 1 Tryz.underlying40 hi hz0 hz1 .i64 .i64 _ _ n rfl rfl ?a1 ?a2 ?a3 ?a4 ?a5 ?_)
  case a1 => rfl
  case a2 => rfl
  case a3 => rw [hz2]; omega
  case a4 => unfold maxLen; omega
  case a5 => exact Nat.le_refl _
  intro W0 hown hgr
  have hb0 := xblk_of_made hown
  have hB := below_of_grown hgr
  clear hown hgr
  generalize hgg : w.heap.size = g at hb0 ⊢
  have HG := Lib.hid hgg; have HB := Lib.hid hB; have HB0 := Lib.hid hb0; clear hgg hB hb0
  go_wp2_with fail
  go_loopw [13] (fun iv wr => ∃ j : Nat, j ≤ n ∧ iv = .int .i64 j ∧ XBlk 41 wr g (fillL G j n) ∧ W0.grownBy wr (some g)) (fun iv _ => n - (intOf iv).toNat)
  case atStart => exact ⟨0, Nat.zero_le _, rfl, by rw [fillL_zero]; exact HB0.out, grown_refl _ _⟩
  case round =>
    obtain ⟨j, hj, rfl, hbl, hgr⟩ := hrel
    have hbw : Below w.heap.size w wr := below_grown HB.out hgr (by have := HG.out; omega)
    have HBL := Lib.hid hbl; have HGR := Lib.hid hgr; have HBW := Lib.hid hbw
    clear hbl hgr hbw
    by_cases hlt : j < n
    · have hlt' : j < l.length := by rw [HLEN.out]; exact hlt
      obtain ⟨b, off, rfl, hbl, ck⟩ := HGET.out wr HBW.out j hlt'
      have C := HK.out j hlt' wr HBW.out
      have hset := fillL_set G hlt
      have hfl := fillL_length G hj
      generalize l[j]'hlt' = sk at *
      have KC := Lib.hid C; have HSET := Lib.hid hset; have HFL := Lib.hid hfl; clear C hset hfl
      go_wp2_with (go_at_call 60; refine KC.out.mono ?_; rintro e w3 ⟨rfl, hb3⟩; refine Hid.out ?_)
      have B3 := HBL.out.keep hb3
      have cs := B3.cell j (by rw [HFL.out]; exact hlt)
      have fs := B3.frozen j
      have hs := B3.set j (by rw [HFL.out]; exact hlt) (G j)
      rw [HSET.out] at hs
      have HSE := Lib.hid hs; have HG3 := Lib.hid (grown_set (grown_below HGR.out hb3) j (.string (G j))); clear hs B3 hb3
      generalize (fillL G j n)[j]'_ = old at cs
      refine Lib.hid ?_
      go_wp2
      go_roundw
      case rel => exact ⟨j + 1, by omega, by go_num, HSE.out, HG3.out⟩
      case measure => simp [intOf]; omega
    · have hjn : j = n := by omega
      subst hjn
      have h1 := HBL.out
      rw [fillL_all] at h1
      have H1 := Lib.hid h1; clear h1
      go_wp2
      refine bodyPost_ret (v := .slice (some ⟨g, 0, none⟩) j j) (by simp [results, Tryz.results59, go_sem]) rfl ?_
      exact ⟨g, rfl, H1.out, by have := HG.out; omega, HBW.out⟩
end Go.Proofs.YtjobmkdaaionlaaGreatDoor

/-
  The laws' words on rational numbers: right, awake; playWhole, playBroken, playNumbers.
-/
namespace Go.Proofs.YtjobmkdaaionlaaGreatDoor
open Go Go.Proofs Go.RowKit

theorem StrsAt.on {w W : World} {b : Nat} {ss : List ByteArray} (h : StrsAt w b ss) (hb : b < w.heap.size) (g : Below w.heap.size w W) : StrsAt W b ss := fun j hj => (g.cell (p := ⟨b, j, none⟩) hb).trans (h j hj)
/-- Numbers that stand in a program's text. -/
theorem rstr_lit {s : ByteArray} {q : Rat} (h : bytes s = ratL q) (h1 : (Lib.decDigits q.num.natAbs).length ≤ 4096) (h2 : (Lib.decDigits q.den).length ≤ 4096) : RStr s q :=
  ⟨h, str_itoa h1, str_itoa (by rwa [Int.natAbs_natCast])⟩
theorem ratR2_at {s t : ByteArray} {p q : Rat} (f : Rat → Rat → Value) (hs : RStr s p) (ht : RStr t q) : ratR2 f (bytes s) (bytes t) = f p q := by
  unfold ratR2 rerrBoth
  rw [hs.rerr, if_pos rfl, ht.rerr, if_pos rfl, hs.val, ht.val]
def q1 : Rat := ⟨1, 1, by decide, by decide⟩
def q0 : Rat := ⟨0, 1, by decide, by decide⟩
theorem q0_str : RStr ⟨#[48]⟩ q0 := rstr_lit (by decide +kernel) (by decide +kernel) (by decide +kernel)
theorem s4 : Str ⟨#[52]⟩ 4 := str_lit (by decide) (by decide) (by decide)
theorem s3 : Str ⟨#[51]⟩ 3 := str_lit (by decide) (by decide) (by decide)
end Go.Proofs.YtjobmkdaaionlaaGreatDoor

/-
  BigintRing: the walk.
-/
namespace Go.Proofs.YtjobmkdaaionlaaGreatDoor
open Go Go.Proofs Go.RowKit

def Sz (k : Nat) (x : Int) : Prop := x.natAbs < 10 ^ k
theorem Sz.mono {j k : Nat} {x : Int} (h : Sz j x) (hjk : j ≤ k) : Sz k x := Nat.lt_of_lt_of_le h (Nat.pow_le_pow_right (by decide) hjk)
theorem Sz.add {k : Nat} {x y : Int} (h1 : Sz k x) (h2 : Sz k y) : Sz (k + 1) (x + y) := by
  unfold Sz at *
  rw [Nat.pow_succ]
  generalize (10 : Nat) ^ k = p at *
  omega
theorem Sz.mul {j k : Nat} {x y : Int} (h1 : Sz j x) (h2 : Sz k y) : Sz (j + k) (x * y) := by
  unfold Sz at *
  rw [Int.natAbs_mul, Nat.pow_add]
  exact Nat.mul_lt_mul'' h1 h2
theorem Sz.fits {k : Nat} {x : Int} (h : Sz k x) (h0 : 0 < k) (hk : k ≤ 4096) : ¬ 4096 < (Lib.decDigits x.natAbs).length := fits_of_lt k h h0 hk
theorem Sz.str {k : Nat} {x : Int} (h : Sz k x) (h0 : 0 < k) (hk : k ≤ 4096) : Str (str (Lib.itoa x)) x := str_itoa (Nat.le_of_not_lt (h.fits h0 hk))

end Go.Proofs.YtjobmkdaaionlaaGreatDoor
