/-
  strings.Builder over this program: copyCheck, WriteByte, WriteString (the shelf's layings do not fit it: a type that only the refused place names).
-/
import Derived.Test.YtmogmneaomndeaaDoorLexB
import Derived.Lib.Builder
import Derived.Lib.AppendStr
import Derived.Lib.UnsafeStr
import Derived.Laws.Externs
import Derived.Deep.AppendLies
import Derived.Lib.OthersKept
import Derived.Lib.OwnKind
import Derived.WalkMore
set_option linter.unusedSimpArgs false
set_option linter.unusedVariables false
namespace Go.Proofs.YtmogmneaomndeaaDoor
open Go Go.Proofs Go.RowKit

theorem bldSize : (Tryd.prog.info? 68).map (·.size) = some 2 := by kernel_rfl
theorem bldLies : liesAt Tryd.prog Tryd.prog.depth 68 (2 / Tryd.prog.cellsOf 68) 0 68 1 = true := by kernel_rfl
theorem bldByte : (Tryd.prog.info? 5).map (fun i => (i.zero, i.size, i.bytes)) = some (some (.int .u8 0), 1, 1) := by kernel_rfl
abbrev IsB (B b : Nat) (l : List Value) (w : World) : Prop := Lib.IsBuilder 68 5 B b l w
abbrev AtB (B b : Nat) (l : List Value) (w : World) : Prop := Lib.BuilderAt 68 5 B b (.pointer (some ⟨b, 0, none⟩)) l w

set_option maxRecDepth 20000 in
theorem ccUsed (b : Nat) (w : World) (h : w.cell? ⟨b, 0, none⟩ = some (.pointer (some ⟨b, 0, none⟩))) :
    Calls Tryd.prog 78 #[.pointer (some ⟨b, 0, none⟩)] w fun e w' => e = .returned (.tuple #[]) ∧ w' = w := by
  obtain ⟨j, hj, -⟩ := Option.map_eq_some_iff.1 bldSize
  go_enter Tryd.func78, Tryd.ntmps78
  go_wp2
  rw [Lib.run_neq_ptr_same w ⟨b, 0, none⟩ Tryd.underlying65 hj]
  go_wp2
  go_end0
  exact ⟨rfl, rfl⟩

set_option maxRecDepth 20000 in
theorem ccFresh (b : Nat) (w : World) (h : w.cell? ⟨b, 0, none⟩ = some (.pointer none)) (hsh : w.shape? b = some (68, 2)) (hf : w.frozen? ⟨b, 0, none⟩ = false) :
    Calls Tryd.prog 78 #[.pointer (some ⟨b, 0, none⟩)] w fun e w' => e = .returned (.tuple #[]) ∧ w' = w.setCell ⟨b, 0, none⟩ (.pointer (some ⟨b, 0, none⟩)) := by
  obtain ⟨j, hj, hs2⟩ := Option.map_eq_some_iff.1 bldSize
  have hj0 : j.size ≠ 0 := by rw [hs2]; decide
  have KS := Lib.hid hs2; have KJ := Lib.hid hj0
  clear hs2 hj0
  go_enter Tryd.func78, Tryd.ntmps78
  go_wp2
  rw [Lib.run_to_unsafe w ⟨b, 0, none⟩ Tryd.underlying65 Tryd.underlying98 hj KJ.out hsh (Nat.zero_lt_succ 1)]
  simp only [Result.andThen]
  rw [Oper.upon_value]
  go_wp2
  rw [run_callFunc_extern Tryd.func89 (by kernel_rfl) (by kernel_rfl) (by kernel_rfl) (e := Extern.AbiNoEscape.same) (by kernel_rfl)]
  rw [Lib.run_noEscape]
  simp only [Result.andThen]
  rw [Oper.upon_value]
  go_wp2
  rw [Lib.run_from_unsafe w ⟨b, 0, none⟩ Tryd.underlying98 Tryd.underlying65 hj hsh bldLies]
  simp only [Result.andThen]
  rw [Oper.upon_value]
  go_wp2
  go_end0
  exact ⟨rfl, rfl⟩
theorem cc_any (B b : Nat) (l : List Value) (w : World) (h : IsB B b l w) :
    Calls Tryd.prog 78 #[.pointer (some ⟨b, 0, none⟩)] w fun e w' => e = .returned (.tuple #[]) ∧ AtB B b l w' ∧ Below B w w' ∧ Lib.OthersKept 5 (some b) w w' := by
  rcases h with h | h
  · refine (ccFresh b w h.cell0 h.shape h.frozen0).mono ?_
    rintro e w' ⟨rfl, rfl⟩
    exact ⟨rfl, h.used _, (Below.refl B w).setCell (p := ⟨b, 0, none⟩) h.1 _, (Lib.OthersKept.refl 5 (some b) w).setCell ⟨b, 0, none⟩ rfl _⟩
  · refine (ccUsed b w h.cell0).mono ?_
    rintro e w' ⟨rfl, rfl⟩
    exact ⟨rfl, h, Below.refl B _, Lib.OthersKept.refl _ _ _⟩

set_option maxHeartbeats 400000 in
theorem wrByte_any (B b : Nat) (l : List Value) (c : Nat) (w : World) (h : IsB B b l w) (hl : l.length ≤ 10000000) (hB : B ≤ w.heap.size) :
    Calls Tryd.prog 52 #[.pointer (some ⟨b, 0, none⟩), .int .u8 (c : Int)] w fun e w' => e = .returned .nilIface ∧ AtB B b (l ++ [.int .u8 (c : Int)]) w' ∧ Below B w w' ∧ Lib.OthersKept 5 (some b) w w' := by
  have CC := cc_any B b l w h
  have KC := Lib.hid CC; have HL := Lib.hid hl; have HB := Lib.hid hB
  clear CC h hl hB
  obtain ⟨i0, hi, hz0, hz1, hz2⟩ := info_parts bldByte
  go_enter Tryd.func52, Tryd.ntmps52
  go_wp2_with (go_at_call 78; refine KC.out.mono ?_; rintro e w1 ⟨rfl, h1, hb1, hk1⟩; refine Hid.out ?_)
  obtain ⟨hB, v, hbk, hown, hne⟩ := h1
  have hlt : b < w1.heap.size := (Array.getElem?_eq_some_iff.1 hbk).1
  have c1 : w1.cell? ⟨b, 1, none⟩ = some v := by rw [Lib.cell_of_heap hbk]; rfl
  have hA : Below B w (w1.alloc (Obj.cells #[.int .u8 (c : Int)] 5)) := hb1.alloc (Nat.le_trans HB.out hb1.size) _
  have hzz : B ≤ (w1.alloc (Obj.cells #[.int .u8 (c : Int)] 5)).heap.size := Nat.le_trans HB.out hA.size
  have hoA := hown.alloc (Obj.cells #[.int .u8 (c : Int)] 5)
  have hkA : (w1.alloc (Obj.cells #[.int .u8 (c : Int)] 5)).heap[b]? = some (.cells #[.pointer (some ⟨b, 0, none⟩), v] 68 (0, 0)) := by rw [Lib.alloc_old w1 _ b hlt]; exact hbk
  have HA := Lib.hid hA; have HZZ := Lib.hid hzz; have HOA := Lib.hid hoA; have HKA := Lib.hid hkA; have HNE := Lib.hid hne; have HBB := Lib.hid hB; have HLT := Lib.hid hlt
  have hov : ∀ k, Value.ownBlock _ = some k → B ≤ k := fun k hk => (hown.lt k hk).1
  have hkk := hk1.alloc (Obj.cells #[.int .u8 (c : Int)] 5)
  have hkd := fun k hk => Lib.ownsRow_kind hoA k hk
  have HOV := Lib.hid hov; have HKK := Lib.hid hkk; have HKD := Lib.hid hkd
  clear hA hzz hoA hkA hne hB hb1 hbk hown hlt hov hk1 hkk hkd
  refine Lib.hid ?_
  go_wp2_with (first | (at_builtin; refine wpList_append_lies _ rfl (.tmp 11) (.tmp 13) 66 rfl B 5 i0 (.int .u8 0) 1 1 Tryd.underlying66 hi hz0 hz1 hz2 rfl (by decide) v l.length l (by simp [Act.eval, Act.put]) HOA.out ⟨w1.heap.size, 0, none⟩ 1 1 [.int .u8 (c : Int)] (by simp [Act.eval, Act.put]) rfl ?d1 (by intro u hu; simp at hu; subst hu; rfl) (by decide) (by have := HL.out; unfold maxLen; omega) (by have := HL.out; omega) HZZ.out _ rfl ?_; rotate_left; intro g cap w2 ho2 hg2 hgg2 hlt2; refine Hid.out ?_) | fail)
  rotate_left
  · intro j u hu
    match j, hu with
    | 0, hu => simp at hu; subst hu; rw [show ((⟨w1.heap.size, 0, none⟩ : Addr).add 0) = ⟨w1.heap.size, 0, none⟩ from rfl]; go_cell
  have hk2 : w2.heap[b]? = some (.cells #[.pointer (some ⟨b, 0, none⟩), v] 68 (0, 0)) := by
    rw [hg2.block b (by have := HLT.out; simp; omega) (fun e => HNE.out e.symm)]; exact HKA.out
  have d1 : w2.cell? ⟨b, 1, none⟩ = some v := by rw [Lib.cell_of_heap hk2]; rfl
  have f1 : w2.frozen? ⟨b, 1, none⟩ = false := Lib.frozen_of_heap hk2 1
  have hb2 := (HA.out.grown hg2 HZZ.out HOV.out).setCell (p := ⟨b, 1, none⟩) HBB.out (.slice (some ⟨g, 0, none⟩) (l.length + 1) cap)
  have hp := Lib.BuilderAt.put (T := 68) (e := 5) HBB.out hk2 (bs' := l ++ [.int .u8 (c : Int)]) (by simpa using ho2) (by decide)
  have hq2 := (HKK.out.grown hg2 HKD.out).setCell ⟨b, 1, none⟩ rfl (.slice (some ⟨g, 0, none⟩) (l.length + 1) cap)
  have HB2 := Lib.hid hb2; have HP := Lib.hid hp; have HQ2 := Lib.hid hq2
  clear hb2 hp ho2 hg2 hgg2 hk2 hq2
  refine Lib.hid ?_
  go_wp2
  go_ret
  exact ⟨rfl, HP.out, HB2.out, HQ2.out⟩

set_option maxHeartbeats 400000 in
theorem wrString_any (B b : Nat) (l : List Value) (s : ByteArray) (w : World) (h : IsB B b l w) (hl : l.length ≤ 10000000) (hs : s.size ≤ 10000000) (hB : B ≤ w.heap.size) :
    Calls Tryd.prog 53 #[.pointer (some ⟨b, 0, none⟩), .string s] w fun e w' => e = .returned (.tuple #[.int .i64 (s.size : Nat), .nilIface]) ∧ AtB B b (l ++ Lib.strCells s) w' ∧ Below B w w' ∧ Lib.OthersKept 5 (some b) w w' := by
  have CC := cc_any B b l w h
  have KC := Lib.hid CC; have HL := Lib.hid hl; have HB := Lib.hid hB; have HS := Lib.hid hs
  clear CC h hl hB hs
  obtain ⟨i0, hi, hz0, hz1, hz2⟩ := info_parts bldByte
  go_enter Tryd.func53, Tryd.ntmps53
  go_wp2_with (go_at_call 78; refine KC.out.mono ?_; rintro e w1 ⟨rfl, h1, hb1, hk1⟩; refine Hid.out ?_)
  obtain ⟨hB, v, hbk, hown, hne⟩ := h1
  have hlt : b < w1.heap.size := (Array.getElem?_eq_some_iff.1 hbk).1
  have c1 : w1.cell? ⟨b, 1, none⟩ = some v := by rw [Lib.cell_of_heap hbk]; rfl
  have hzz : B ≤ w1.heap.size := Nat.le_trans HB.out hb1.size
  have hov : ∀ k, Value.ownBlock _ = some k → B ≤ k := fun k hk => (hown.lt k hk).1
  have HA := Lib.hid hb1; have HZZ := Lib.hid hzz; have HOA := Lib.hid hown; have HKA := Lib.hid hbk; have HNE := Lib.hid hne; have HBB := Lib.hid hB; have HLT := Lib.hid hlt
  have hkd := fun k hk => Lib.ownsRow_kind hown k hk
  have HOV := Lib.hid hov; have HKK := Lib.hid hk1; have HKD := Lib.hid hkd
  clear hzz hne hB hb1 hbk hown hlt hov hk1 hkd
  refine Lib.hid ?_
  go_wp2_with (first | (at_builtin; refine Lib.wpList_append_own_string _ rfl (.tmp 12) (.tmp 13) 66 9 rfl B 5 i0 Tryd.underlying66 Tryd.underlying9 hi hz0 hz1 hz2 v l.length l (by simp [Act.eval, Act.put]) HOA.out s (by simp [Act.eval, Act.put]) (by have := HL.out; have := HS.out; unfold maxLen; omega) (by have := HL.out; have := HS.out; omega) HZZ.out ?_; intro v2 w2 ho2 hg2 hnil2; refine Hid.out ?_) | fail)
  have hk2 : w2.heap[b]? = some (.cells #[.pointer (some ⟨b, 0, none⟩), v] 68 (0, 0)) := by
    rw [hg2.block b HLT.out (fun e => HNE.out e.symm)]; exact HKA.out
  have d1 : w2.cell? ⟨b, 1, none⟩ = some v := by rw [Lib.cell_of_heap hk2]; rfl
  have f1 : w2.frozen? ⟨b, 1, none⟩ = false := Lib.frozen_of_heap hk2 1
  have hb2 := (HA.out.grown hg2 HZZ.out HOV.out).setCell (p := ⟨b, 1, none⟩) HBB.out v2
  have hp := Lib.BuilderAt.put (T := 68) (e := 5) HBB.out hk2 (bs' := l ++ Lib.strCells s) (by simpa [Lib.strCells_length] using ho2) (by decide)
  obtain ⟨ao, n2, cap2, rfl⟩ : ∃ ao n cap, v2 = .slice ao n cap := by
    rcases ho2.2 with ⟨e, -⟩ | ⟨g, cap, cur, e, -⟩
    · exact ⟨_, _, _, e⟩
    · exact ⟨_, _, _, e⟩
  have hq2 := (HKK.out.grown hg2 HKD.out).setCell ⟨b, 1, none⟩ rfl (.slice ao n2 cap2)
  have HB2 := Lib.hid hb2; have HP := Lib.hid hp; have HQ2 := Lib.hid hq2
  clear hb2 hp ho2 hg2 hnil2 hk2 hq2
  refine Lib.hid ?_
  go_wp2
  refine bodyPost_ret (by simp [results, Tryd.results53, go_sem]; rfl) rfl ?_
  exact ⟨rfl, HP.out, HB2.out, HQ2.out⟩
end Go.Proofs.YtmogmneaomndeaaDoor
