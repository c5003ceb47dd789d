import Derived.Test.YtaonhipamobbaaaCu1
import Derived.ChangeMaps5
import Derived.Lib.SmallJoins
import Derived.Deep.Slices
set_option linter.unusedSimpArgs false
set_option linter.unusedVariables false
namespace Go.Proofs.Ytaonhipamobbaaa
open Go Go.Proofs Go.RowKit Go.ChangeShapes Go.WideShapes Go.ChangeMaps

section
variable {H : Type} {enc : TypeId × Value → H} {w : World}
theorem leafI {fuel : Nat} {t : TypeId} {c : Value} {x : DataW H × List MemPlace} (ht : Try.prog.underlying t = some (.int .i64)) (h : DataW.trod enc Try.prog w 0 (fun _ => true) true fuel t [c] = some x) : ∃ z, c = .int .i64 z := by
  obtain ⟨n, e, -⟩ := DataW.trod_int ht h
  cases e; exact ⟨n, rfl⟩
theorem leafS {fuel : Nat} {t : TypeId} {c : Value} {x : DataW H × List MemPlace} (ht : Try.prog.underlying t = some .string) (h : DataW.trod enc Try.prog w 0 (fun _ => true) true fuel t [c] = some x) : ∃ z, c = .string z := by
  obtain ⟨n, e, -⟩ := DataW.trod_string ht h
  cases e; exact ⟨n, rfl⟩
theorem leafL {fuel : Nat} {t e : TypeId} {c : Value} {x : DataW H × List MemPlace} (ht : Try.prog.underlying t = some (.slice e)) (h : DataW.trod enc Try.prog w 0 (fun _ => true) true fuel t [c] = some x) : ∃ o n k, c = .slice o n k := by
  rcases DataW.trod_slice ht h with ⟨e, -⟩ | ⟨a, len, cap, _, _, _, _, e, -⟩
  · cases e; exact ⟨_, _, _, rfl⟩
  · cases e; exact ⟨_, _, _, rfl⟩
theorem fld {fuel : Nat} {t : TypeId} {fs : Array Field} {cs : List Value} {x : DataW H × List MemPlace} (ht : Try.prog.underlying t = some (.struct fs)) (h : DataW.trod enc Try.prog w 0 (fun _ => true) true fuel t cs = some x)
    (i : Nat) (f : Field) (tt : TypeId) (o m : Nat) (hf : fs[i]? = some f) (h1 : f.type = tt) (h2 : f.offset = o) (h3 : Try.prog.cellsOf tt = m) : ∃ n y, DataW.trod enc Try.prog w 0 (fun _ => true) true n tt ((cs.drop o).take m) = some y := by
  obtain ⟨xs, n, -, -, -, hx, hg⟩ := DataW.trod_struct ht h
  have g := hg i f hf
  have hi : i < xs.length := by rw [hx]; exact (Array.getElem?_eq_some_iff.1 hf).1
  rw [List.getElem?_eq_getElem hi, h1, h2, h3] at g
  exact ⟨n, _, g⟩
theorem len_of {fuel : Nat} {t : TypeId} {fs : Array Field} {cs : List Value} {x : DataW H × List MemPlace} (ht : Try.prog.underlying t = some (.struct fs)) (h : DataW.trod enc Try.prog w 0 (fun _ => true) true fuel t cs = some x) (m : Nat) (h3 : Try.prog.cellsOf t = m) : cs.length = m := by
  obtain ⟨xs, n, -, -, hl, -⟩ := DataW.trod_struct ht h
  exact hl.trans h3
theorem k_int : Try.prog.cellsOf 3 = 1 := by kernel_rfl
theorem k_str : Try.prog.cellsOf 44 = 1 := by kernel_rfl
theorem k_sx : Try.prog.cellsOf 45 = 1 := by kernel_rfl
theorem k_sc : Try.prog.cellsOf 48 = 1 := by kernel_rfl
theorem k_si : Try.prog.cellsOf 51 = 1 := by kernel_rfl
theorem k_se : Try.prog.cellsOf 22 = 1 := by kernel_rfl
theorem k_x : Try.prog.cellsOf 47 = 4 := by kernel_rfl
theorem k_c : Try.prog.cellsOf 50 = 3 := by kernel_rfl
theorem k_m : Try.prog.cellsOf 53 = 19 := by kernel_rfl
theorem k_e : Try.prog.cellsOf 55 = 21 := by kernel_rfl
theorem k_g : Try.prog.cellsOf 24 = 3 := by kernel_rfl
theorem ex_of {fuel : Nat} {cs : List Value} {x : DataW H × List MemPlace} (h : DataW.trod enc Try.prog w 0 (fun _ => true) true fuel 47 cs = some x) : ∃ z s y o n c, cs = [.int .i64 z, .string s, .int .i64 y, .slice o n c] := by
  have hl := len_of Try.underlying47 h 4 k_x
  match cs, hl with
  | [c0, c1, c2, c3], _ =>
    obtain ⟨n0, y0, g0⟩ := fld Try.underlying47 h 0 _ 3 0 1 rfl rfl rfl k_int
    have g0' : DataW.trod enc Try.prog w 0 (fun _ => true) true n0 3 [c0] = some y0 := g0
    obtain ⟨z0, rfl⟩ := leafI Try.underlying3 g0'
    obtain ⟨n1, y1, g1⟩ := fld Try.underlying47 h 1 _ 44 1 1 rfl rfl rfl k_str
    have g1' : DataW.trod enc Try.prog w 0 (fun _ => true) true n1 44 [c1] = some y1 := g1
    obtain ⟨z1, rfl⟩ := leafS Try.underlying44 g1'
    obtain ⟨n2, y2, g2⟩ := fld Try.underlying47 h 2 _ 3 2 1 rfl rfl rfl k_int
    have g2' : DataW.trod enc Try.prog w 0 (fun _ => true) true n2 3 [c2] = some y2 := g2
    obtain ⟨z2, rfl⟩ := leafI Try.underlying3 g2'
    obtain ⟨n3, y3, g3⟩ := fld Try.underlying47 h 3 _ 45 3 1 rfl rfl rfl k_sx
    have g3' : DataW.trod enc Try.prog w 0 (fun _ => true) true n3 45 [c3] = some y3 := g3
    obtain ⟨o3, l3, k3, rfl⟩ := leafL Try.underlying45 g3'
    exact ⟨_, _, _, _, _, _, rfl⟩
theorem co_of {fuel : Nat} {cs : List Value} {x : DataW H × List MemPlace} (h : DataW.trod enc Try.prog w 0 (fun _ => true) true fuel 50 cs = some x) : ∃ z o n c o2 n2 c2, cs = [.int .i64 z, .slice o n c, .slice o2 n2 c2] := by
  have hl := len_of Try.underlying50 h 3 k_c
  match cs, hl with
  | [c0, c1, c2], _ =>
    obtain ⟨n0, y0, g0⟩ := fld Try.underlying50 h 0 _ 3 0 1 rfl rfl rfl k_int
    have g0' : DataW.trod enc Try.prog w 0 (fun _ => true) true n0 3 [c0] = some y0 := g0
    obtain ⟨z0, rfl⟩ := leafI Try.underlying3 g0'
    obtain ⟨n1, y1, g1⟩ := fld Try.underlying50 h 1 _ 45 1 1 rfl rfl rfl k_sx
    have g1' : DataW.trod enc Try.prog w 0 (fun _ => true) true n1 45 [c1] = some y1 := g1
    obtain ⟨o1, l1, k1, rfl⟩ := leafL Try.underlying45 g1'
    obtain ⟨n2, y2, g2⟩ := fld Try.underlying50 h 2 _ 48 2 1 rfl rfl rfl k_sc
    have g2' : DataW.trod enc Try.prog w 0 (fun _ => true) true n2 48 [c2] = some y2 := g2
    obtain ⟨o2, l2, k2, rfl⟩ := leafL Try.underlying48 g2'
    exact ⟨_, _, _, _, _, _, _, rfl⟩
theorem cm_of {fuel : Nat} {cs : List Value} {x : DataW H × List MemPlace} (h : DataW.trod enc Try.prog w 0 (fun _ => true) true fuel 53 cs = some x) : ∃ d : Ed, [.int .i64 0, .int .i64 0] ++ cs = { d with f := 0, t := 0 }.cs.toList := by
  have hl := len_of Try.underlying53 h 19 k_m
  match cs, hl with
  | [c0, c1, c2, c3, c4, c5, c6, c7, c8, c9, c10, c11, c12, c13, c14, c15, c16, c17, c18], _ =>
    obtain ⟨n0, y0, g0⟩ := fld Try.underlying53 h 0 _ 3 0 1 rfl rfl rfl k_int
    have g0' : DataW.trod enc Try.prog w 0 (fun _ => true) true n0 3 [c0] = some y0 := g0
    obtain ⟨z0, rfl⟩ := leafI Try.underlying3 g0'
    obtain ⟨n1, y1, g1⟩ := fld Try.underlying53 h 1 _ 3 1 1 rfl rfl rfl k_int
    have g1' : DataW.trod enc Try.prog w 0 (fun _ => true) true n1 3 [c1] = some y1 := g1
    obtain ⟨z1, rfl⟩ := leafI Try.underlying3 g1'
    obtain ⟨n2, y2, g2⟩ := fld Try.underlying53 h 2 _ 3 2 1 rfl rfl rfl k_int
    have g2' : DataW.trod enc Try.prog w 0 (fun _ => true) true n2 3 [c2] = some y2 := g2
    obtain ⟨z2, rfl⟩ := leafI Try.underlying3 g2'
    obtain ⟨n3, y3, g3⟩ := fld Try.underlying53 h 3 _ 3 3 1 rfl rfl rfl k_int
    have g3' : DataW.trod enc Try.prog w 0 (fun _ => true) true n3 3 [c3] = some y3 := g3
    obtain ⟨z3, rfl⟩ := leafI Try.underlying3 g3'
    obtain ⟨n4, y4, g4⟩ := fld Try.underlying53 h 4 _ 3 4 1 rfl rfl rfl k_int
    have g4' : DataW.trod enc Try.prog w 0 (fun _ => true) true n4 3 [c4] = some y4 := g4
    obtain ⟨z4, rfl⟩ := leafI Try.underlying3 g4'
    obtain ⟨n5, y5, g5⟩ := fld Try.underlying53 h 5 _ 3 5 1 rfl rfl rfl k_int
    have g5' : DataW.trod enc Try.prog w 0 (fun _ => true) true n5 3 [c5] = some y5 := g5
    obtain ⟨z5, rfl⟩ := leafI Try.underlying3 g5'
    obtain ⟨n6, y6, g6⟩ := fld Try.underlying53 h 6 _ 47 6 4 rfl rfl rfl k_x
    have g6' : DataW.trod enc Try.prog w 0 (fun _ => true) true n6 47 [c6, c7, c8, c9] = some y6 := g6
    obtain ⟨za6, sb6, yc6, o6, l6, k6, e6⟩ := ex_of g6'; cases e6
    obtain ⟨n7, y7, g7⟩ := fld Try.underlying53 h 7 _ 47 10 4 rfl rfl rfl k_x
    have g7' : DataW.trod enc Try.prog w 0 (fun _ => true) true n7 47 [c10, c11, c12, c13] = some y7 := g7
    obtain ⟨za7, sb7, yc7, o7, l7, k7, e7⟩ := ex_of g7'; cases e7
    obtain ⟨n8, y8, g8⟩ := fld Try.underlying53 h 8 _ 50 14 3 rfl rfl rfl k_c
    have g8' : DataW.trod enc Try.prog w 0 (fun _ => true) true n8 50 [c14, c15, c16] = some y8 := g8
    obtain ⟨za8, o8, l8, k8, oo8, ll8, kk8, e8⟩ := co_of g8'; cases e8
    obtain ⟨n9, y9, g9⟩ := fld Try.underlying53 h 9 _ 45 17 1 rfl rfl rfl k_sx
    have g9' : DataW.trod enc Try.prog w 0 (fun _ => true) true n9 45 [c17] = some y9 := g9
    obtain ⟨o9, l9, k9, rfl⟩ := leafL Try.underlying45 g9'
    obtain ⟨n10, y10, g10⟩ := fld Try.underlying53 h 10 _ 51 18 1 rfl rfl rfl k_si
    have g10' : DataW.trod enc Try.prog w 0 (fun _ => true) true n10 51 [c18] = some y10 := g10
    obtain ⟨o10, l10, k10, rfl⟩ := leafL Try.underlying51 g10'
    exact ⟨⟨0, 0, z0, z1, z2, z3, z4, z5, za6, sb6, yc6, o6, l6, k6, za7, sb7, yc7, o7, l7, k7, za8, o8, l8, k8, oo8, ll8, kk8, o9, l9, k9, o10, l10, k10⟩, rfl⟩
theorem ed_of {fuel : Nat} {cs : List Value} {x : DataW H × List MemPlace} (h : DataW.trod enc Try.prog w 0 (fun _ => true) true fuel 55 cs = some x) : ∃ d : Ed, cs = d.cs.toList := by
  have hl := len_of Try.underlying55 h 21 k_e
  match cs, hl with
  | [c0, c1, c2, c3, c4, c5, c6, c7, c8, c9, c10, c11, c12, c13, c14, c15, c16, c17, c18, c19, c20], _ =>
    obtain ⟨n0, y0, g0⟩ := fld Try.underlying55 h 0 _ 3 0 1 rfl rfl rfl k_int
    have g0' : DataW.trod enc Try.prog w 0 (fun _ => true) true n0 3 [c0] = some y0 := g0
    obtain ⟨z0, rfl⟩ := leafI Try.underlying3 g0'
    obtain ⟨n1, y1, g1⟩ := fld Try.underlying55 h 1 _ 3 1 1 rfl rfl rfl k_int
    have g1' : DataW.trod enc Try.prog w 0 (fun _ => true) true n1 3 [c1] = some y1 := g1
    obtain ⟨z1, rfl⟩ := leafI Try.underlying3 g1'
    obtain ⟨n2, y2, g2⟩ := fld Try.underlying55 h 2 _ 53 2 19 rfl rfl rfl k_m
    have g2' : DataW.trod enc Try.prog w 0 (fun _ => true) true n2 53 [c2, c3, c4, c5, c6, c7, c8, c9, c10, c11, c12, c13, c14, c15, c16, c17, c18, c19, c20] = some y2 := g2
    obtain ⟨d, e2⟩ := cm_of g2'
    exact ⟨{ d with f := z0, t := z1 }, by have := congrArg (List.drop 2) e2; simp only [List.cons_append, List.nil_append, List.drop_succ_cons, List.drop_zero] at this; rw [this]; rfl⟩
theorem gadd (b o j : Nat) : (⟨b, o, none⟩ : Addr).add j = ⟨b, o + j, none⟩ := by unfold Addr.add; split <;> simp_all
theorem edCells_get : ∀ (l : List Ed) (j : Nat) (u : Value), (edCells l)[j]? = some u → ∃ i r, i < l.length ∧ j = i * 21 + r ∧ (edD l i).cs[r]? = some u
  | [], j, u, h => by simp [edCells] at h
  | x :: l, j, u, h => by
    rw [edCells] at h
    have hs : x.cs.toList.length = 21 := x.good.size
    by_cases hj : j < 21
    · rw [List.getElem?_append_left (by omega)] at h
      exact ⟨0, j, by simp, by omega, by rw [← Array.getElem?_toList]; exact h⟩
    · rw [List.getElem?_append_right (by omega), hs] at h
      obtain ⟨i, r, hi, e, hr⟩ := edCells_get l (j - 21) u h
      exact ⟨i + 1, r, by simpa using hi, by omega, hr⟩
theorem ERow.open {fuel : Nat} {v : Value} {x : DataW H × List MemPlace} (h : DataW.trod enc Try.prog w 0 (fun _ => true) true fuel 22 [v] = some x) : ∃ (ao : Option Addr) (c : Nat) (l : List Ed), v = .slice ao l.length c ∧ ERow (fun _ => True) w ao c l := by
  rcases Go.Deep.open_slice Try.underlying22 h with ⟨e, -⟩ | ⟨a, len, cap, m, n, D, Pl, e, -, hl, hm, hmm, -, hel⟩
  · cases e
    exact ⟨none, 0, [], rfl, Nat.le_refl _, by decide, fun x hx => by simp at hx, .inl rfl⟩
  · cases e
    simp only [if_true] at hmm
    subst hmm
    have hall : ∀ i, i < len → ∃ d : Ed, ∀ r u, d.cs[r]? = some u → w.cell? ((a.add (i * 21)).add r) = some u := fun i hi => by
      obtain ⟨cs', h1, h2⟩ := hel i (by omega)
      rw [k_e] at h1
      obtain ⟨d, rfl⟩ := ed_of h2
      obtain ⟨-, h4, h5⟩ := World.cells?_some h1
      refine ⟨d, fun r u hu => ?_⟩
      have hr : r < 21 := by
        have := (Array.getElem?_eq_some_iff.1 hu).1
        have e := d.good.size
        omega
      rw [h5 r hr, Array.getElem?_toList]; exact hu
    haveI : Inhabited Ed := ⟨edD [] 0⟩
    obtain ⟨F, hF⟩ := Go.Deep.choose_lt hall
    have e1 : ((List.range len).map F).length = len := by simp
    refine ⟨some a, m, (List.range len).map F, by rw [e1], by rw [e1]; exact hl, hm, fun x _ => x.good, ?_⟩
    rcases Nat.eq_zero_or_pos len with h0 | h0
    · subst h0; exact .inl rfl
    · have c0 := hF 0 h0 0 _ (F 0).good.f0
      obtain ⟨b, off, sp⟩ := a
      have hsp : sp = none := by
        cases sp with
        | none => rfl
        | some q =>
          simp only [Addr.add, World.cell?] at c0
          split at c0 <;> simp at c0
      subst hsp
      refine .inr ⟨b, off, rfl, trivial, ?_, fun j u hu => ?_⟩
      · simp only [Addr.add, World.cell?] at c0
        split at c0
        · rename_i hh
          exact (Array.getElem?_eq_some_iff.1 hh).1
        · cases c0
      · obtain ⟨i, r, hi, rfl, hr⟩ := edCells_get _ j u hu
        rw [e1] at hi
        rw [edD_eq (by rw [e1]; exact hi), List.getElem_map, List.getElem_range] at hr
        have := hF i hi r u hr
        rw [gadd, gadd, Nat.add_assoc] at this
        exact this
set_option maxRecDepth 100000 in
theorem open_graph {r : Reach} {b0 : Nat} {v : Value} {d : DataW H} {ps : List MemPlace}
    (hv : Value.okWide Try.prog w r b0 24 v) (h : DataW.Trod enc Try.prog w 0 (fun _ => true) true 24 v d ps) :
    ∃ (n x : Int) (ao : Option Addr) (c : Nat) (E : List Ed), v = .agg #[.int .i64 n, .int .i64 x, .slice ao E.length c] ∧ ERow (fun _ => True) w ao c E := by
  obtain ⟨cs, rfl, hsz⟩ := okWide_struct Try.underlying24 hv
  rw [k_g] at hsz
  obtain ⟨fuel, hf⟩ := h
  have hf2 : DataW.trod enc Try.prog w 0 (fun _ => true) true fuel 24 cs.toList = some (d, ps) := hf
  obtain ⟨L⟩ := cs
  match L, hsz with
  | [c0, c1, c2], _ =>
    obtain ⟨n0, y0, g0⟩ := fld Try.underlying24 hf2 0 _ 3 0 1 rfl rfl rfl k_int
    obtain ⟨n1, y1, g1⟩ := fld Try.underlying24 hf2 1 _ 3 1 1 rfl rfl rfl k_int
    obtain ⟨n2, y2, g2⟩ := fld Try.underlying24 hf2 2 _ 22 2 1 rfl rfl rfl k_se
    have g0' : DataW.trod enc Try.prog w 0 (fun _ => true) true n0 3 [c0] = some y0 := g0
    have g1' : DataW.trod enc Try.prog w 0 (fun _ => true) true n1 3 [c1] = some y1 := g1
    have g2' : DataW.trod enc Try.prog w 0 (fun _ => true) true n2 22 [c2] = some y2 := g2
    obtain ⟨n, rfl⟩ := leafI Try.underlying3 g0'
    obtain ⟨x, rfl⟩ := leafI Try.underlying3 g1'
    obtain ⟨ao, c, E, rfl, hE⟩ := ERow.open g2'
    exact ⟨n, x, ao, c, E, rfl, hE⟩
end
theorem graph_own : ownKnob Try.prog.godebug = none := by kernel_rfl
theorem graph_laidOut : laidOutB Try.prog = true := by kernel_rfl
end Go.Proofs.Ytaonhipamobbaaa
namespace Go.Proofs.Ytaonhipamobbaaa
open Go Go.Proofs Go.RowKit

def ckEs (n : Int) (E : List Ed) : Bool := E.all fun x => isPt n x.f && isPt n x.t
/-- The number of a graph's error. -/
def ckG (n x : Int) (E : List Ed) : Nat := if n < 1 ∨ 512 < n then 2 else if isPt n x = false then 2 else if 1024 < E.length then 5 else if ckEs n E = true then 0 else 6
theorem ckEs_take {n : Int} {E : List Ed} {j : Nat} (h : j < E.length) : ckEs n (E.take (j + 1)) = (ckEs n (E.take j) && (isPt n (edD E j).f && isPt n (edD E j).t)) := by
  rw [edD_take h]; simp [ckEs]
theorem ckEs_bad {n : Int} {E : List Ed} {j : Nat} (h : j < E.length) (hb : (isPt n (edD E j).f && isPt n (edD E j).t) = false) : ckEs n E = false := by
  cases hc : ckEs n E with
  | false => rfl
  | true =>
    have := List.all_eq_true.1 hc _ (edD_mem h)
    rw [hb] at this; cases this
/-- A graph's box. -/
structure GBx (W : World) (p : Nat) (n x : Int) (ao : Option Addr) (m c : Nat) : Prop where
  c0 : W.cell? ⟨p, 0, none⟩ = some (.int .i64 n)
  c1 : W.cell? ⟨p, 1, none⟩ = some (.int .i64 x)
  c2 : W.cell? ⟨p, 2, none⟩ = some (.slice ao m c)
  lt : p < W.heap.size
theorem GBx.new (w : World) (n x : Int) (ao : Option Addr) (m c : Nat) : GBx (w.alloc (Obj.cells #[.int .i64 n, .int .i64 x, .slice ao m c] 24)) w.heap.size n x ao m c :=
  ⟨by go_cell, by go_cell, by go_cell, by simp⟩
theorem GBx.but {S : Nat → Prop} {W W' : World} {p : Nat} {n x : Int} {ao : Option Addr} {m c : Nat} (h : GBx W p n x ao m c) (hb : But S W W') (hn : ¬ S p) : GBx W' p n x ao m c :=
  ⟨(hb.cell (p := ⟨p, 0, none⟩) h.lt hn).trans h.c0, (hb.cell (p := ⟨p, 1, none⟩) h.lt hn).trans h.c1, (hb.cell (p := ⟨p, 2, none⟩) h.lt hn).trans h.c2, Nat.lt_of_lt_of_le h.lt hb.size⟩
theorem GBx.below {W W' : World} {p : Nat} {n x : Int} {ao : Option Addr} {m c : Nat} (h : GBx W p n x ao m c) (hb : Below W.heap.size W W') : GBx W' p n x ao m c := h.but (S := fun _ => False) (But.of_below hb) id
theorem EdAt.below {W W' : World} {b o : Nat} {x : Ed} (h : EdAt W b o x) (hb : Below W.heap.size W W') (hlt : b < W.heap.size) : EdAt W' b o x := h.but (S := fun _ => False) (But.of_below hb) hlt id
set_option maxRecDepth 20000 in
set_option maxHeartbeats 4000000 in
theorem check_any {A : Nat → Prop} (n x : Int) (ao : Option Addr) (c : Nat) (E : List Ed) (w : World) (hr : ERow A w ao c E) :
    Calls Try.prog 21 #[.agg #[.int .i64 n, .int .i64 x, .slice ao E.length c]] w fun e w' => e = .returned (.int .i64 (ckG n x E : Nat)) ∧ Below w.heap.size w w' := by
  have hA : Below w.heap.size w (w.alloc (Obj.cells #[.int .i64 n, .int .i64 x, .slice ao E.length c] 24)) := (Below.refl _ _).alloc (Nat.le_refl _) _
  have hX := GBx.new w n x ao E.length c
  unfold ckG
  cases g1 : decide (n < 1) with
  | true =>
    rw [decide_eq_true_eq] at g1
    rw [if_pos (Or.inl g1)]
    clear hr
    go_enter Try.func21, Try.ntmps21
    go_wp2
    go_ret
    exact ⟨rfl, hA⟩
  | false =>
  cases g2 : decide (512 < n) with
  | true =>
    rw [decide_eq_true_eq] at g2
    rw [if_pos (Or.inr g2)]
    clear hr
    go_enter Try.func21, Try.ntmps21
    go_wp2
    go_ret
    exact ⟨rfl, hA⟩
  | false =>
  rw [if_neg (by rw [decide_eq_false_iff_not] at g1 g2; omega)]
  cases g3 : isPt n x with
  | false =>
    rw [if_pos rfl]
    clear hr
    have CP := isPoint_any n x x ao E.length c (w.alloc (Obj.cells #[.int .i64 n, .int .i64 x, .slice ao E.length c] 24))
    rw [g3] at CP
    have KP := Lib.hid CP; have HA := Lib.hid hA; have HX := Lib.hid hX; clear CP hA
    go_enter Try.func21, Try.ntmps21
    go_wp2_with (go_at_call 51; refine (KP.out).mono ?_; rintro e w1 ⟨rfl, hb⟩; refine Hid.out ?_)
    have HB := Lib.hid (Below.chain HA.out hb); clear hb
    refine Lib.hid ?_
    go_wp2
    go_ret
    exact ⟨rfl, HB.out⟩
  | true =>
  rw [if_neg (by simp)]
  cases g4 : decide (1024 < E.length) with
  | true =>
    rw [decide_eq_true_eq] at g4
    rw [if_pos g4]
    have g5 : (1024 : Int) < (E.length : Int) := by omega
    clear hr
    have CP := isPoint_any n x x ao E.length c (w.alloc (Obj.cells #[.int .i64 n, .int .i64 x, .slice ao E.length c] 24))
    rw [g3] at CP
    have KP := Lib.hid CP; have HA := Lib.hid hA; have HX := Lib.hid hX; clear CP hA
    go_enter Try.func21, Try.ntmps21
    go_wp2_with (go_at_call 51; refine (KP.out).mono ?_; rintro e w1 ⟨rfl, hb⟩; refine Hid.out ?_)
    have HB := Lib.hid (Below.chain HA.out hb)
    have Y := HX.out.below hb
    obtain ⟨y0, y1, y2, y3⟩ := Y
    clear hb
    refine Lib.hid ?_
    go_wp2
    go_ret
    exact ⟨rfl, HB.out⟩
  | false =>
  rw [decide_eq_false_iff_not] at g4
  rw [if_neg g4]
  have g5 : ¬ (1024 : Int) < (E.length : Int) := by omega
  have hlen : E.length ≤ 1024 := by omega
  have CP := isPoint_any n x x ao E.length c (w.alloc (Obj.cells #[.int .i64 n, .int .i64 x, .slice ao E.length c] 24))
  rw [g3] at CP
  have hat : ∀ j, j < E.length → ∃ b o, ao = some ⟨b, o, none⟩ ∧ b < w.heap.size ∧ EdAt w b (o + j * 21) (edD E j) ∧ (edD E j).ok := fun j hj => by
    obtain ⟨b, o, e, -, h1, h2⟩ := hr.get j hj
    exact ⟨b, o, e, h1, h2⟩
  obtain ⟨G, hG⟩ : ∃ G : Nat, G = (if ckEs n E = true then 0 else 6) := ⟨_, rfl⟩
  rw [← hG]
  have KP := Lib.hid CP; have HA := Lib.hid hA; have HX := Lib.hid hX; have HAT := Lib.hid hat; have HG := Lib.hid hG; have HL := Lib.hid hlen
  obtain ⟨N, hN⟩ : ∃ N, E.length = N := ⟨_, rfl⟩
  clear CP hA hr hat hG hX hlen g4
  rw [hN] at KP HA HX g5 ⊢
  have HN := Lib.hid hN; clear hN
  go_enter Try.func21, Try.ntmps21
  go_wp2_with (go_at_call 51; refine (KP.out).mono ?_; rintro e w1 ⟨rfl, hb⟩; refine Hid.out ?_)
  have HB := Lib.hid (Below.chain HA.out hb)
  have HY := Lib.hid (HX.out.below hb)
  obtain ⟨y0, y1, y2, y3⟩ := HY.out
  clear hb
  refine Lib.hid ?_
  go_wp2_with fail
  go_loopw [28] (fun iv wr => ∃ j : Nat, j ≤ N ∧ iv = .int .i64 (j : Int) ∧ ckEs n (E.take j) = true ∧ Below w1.heap.size w1 wr) (fun iv _ => N - (intOf iv).toNat)
  case atStart => exact ⟨0, Nat.zero_le _, rfl, rfl, Below.refl _ _⟩
  case round =>
    obtain ⟨j, hj, rfl, hck, hB⟩ := hrel
    have HB2 := Lib.hid hB; have HCK := Lib.hid hck; clear hB hck y0 y1 y2 y3
    by_cases hlt : j < N
    · have hlt' : j < E.length := by rw [HN.out]; exact hlt
      obtain ⟨b, o, rfl, hbl, he, hok⟩ := HAT.out j hlt'
      have he2 := he.below (Below.chain HB.out HB2.out) hbl
      obtain ⟨y0, y1, y2, y3⟩ := HY.out.below HB2.out
      have hd := ckEs_take (n := n) hlt'
      have hbad := fun h => ckEs_bad (n := n) hlt' h
      have HD := Lib.hid hd; have HBAD := Lib.hid hbad
      clear hd hbad he hlt' hbl
      generalize edD E j = d at *
      have HE := Lib.hid he2
      have q5 := ed_box0 wr d; have q6 := ed_box1 wr d
      clear he2 hok
      have CP1 := fun W => isPoint_any n x d.f (some ⟨b, o, none⟩) N c W
      have CP2 := fun W => isPoint_any n x d.t (some ⟨b, o, none⟩) N c W
      cases q1 : isPt n d.f <;> cases q2 : isPt n d.t <;> rw [q1] at CP1 <;> rw [q2] at CP2
      all_goals have KP1 := Lib.hid CP1; have KP2 := Lib.hid CP2; clear CP1 CP2
      rotate_right
      · have HC2 : Hid (ckEs n (E.take (j + 1)) = true) := Lib.hid (by rw [HD.out, HCK.out, q1, q2]; rfl)
        clear HD HCK q1 q2 HBAD
        go_wp2_with (first | (refine wpList_load_ed (.tmp 30) rfl rfl b (o + j * 21) (by simp [Act.eval, Act.put]) d HE.out ?_) | (refine wpList_store_ed (.tmp 4) (.tmp 31) rfl rfl rfl (by simp [Act.eval, Act.put]) d (by simp [Act.eval, Act.put]) ?_) | (go_at_call 51; refine (KP1.out _).mono ?_; clear KP1; rintro e w2 ⟨rfl, hb⟩; refine Hid.out ?_))
        have HBa : Hid (Below wr.heap.size wr (wr.alloc (.cells d.cs 55))) := Lib.hid ((Below.refl _ _).alloc (Nat.le_refl _) _)
        have HB3 := Lib.hid (Below.chain (Below.chain HB2.out HBa.out) hb)
        have c0 := hb.cell (p := ⟨wr.heap.size, 1, none⟩) (by simp)
        rw [q6] at c0
        obtain ⟨y0, y1, y2, y3⟩ := (HY.out.below (HB2.out)).below (Below.chain HBa.out hb)
        clear hb q5 q6
        refine Lib.hid ?_
        go_wp2_with (go_at_call 51; refine (KP2.out _).mono ?_; clear KP2; rintro e w3 ⟨rfl, hb⟩; refine Hid.out ?_)
        have HB4 := Lib.hid (Below.chain HB3.out hb)
        clear hb c0 y0 y1 y2 y3
        refine Lib.hid ?_
        go_wp2
        go_roundw
        case rel => exact ⟨j + 1, by omega, by go_num, HC2.out, HB4.out⟩
        case measure => simp [intOf]; omega
      · have HG2 : Hid (G = 6) := Lib.hid (by rw [HG.out, HBAD.out (by rw [q1, q2]; rfl)]; rfl)
        clear HD HCK q1 q2 HBAD
        go_wp2_with (first | (refine wpList_load_ed (.tmp 30) rfl rfl b (o + j * 21) (by simp [Act.eval, Act.put]) d HE.out ?_) | (refine wpList_store_ed (.tmp 4) (.tmp 31) rfl rfl rfl (by simp [Act.eval, Act.put]) d (by simp [Act.eval, Act.put]) ?_) | (go_at_call 51; refine (KP1.out _).mono ?_; clear KP1; rintro e w2 ⟨rfl, hb⟩; refine Hid.out ?_))
        have HBa : Hid (Below wr.heap.size wr (wr.alloc (.cells d.cs 55))) := Lib.hid ((Below.refl _ _).alloc (Nat.le_refl _) _)
        have HB3 := Lib.hid (Below.chain HB.out (Below.chain (Below.chain HB2.out HBa.out) hb))
        obtain rfl := HG2.out
        clear hb q5 q6 y0 y1 y2 y3
        refine Lib.hid ?_
        go_wp2
        go_ret
        exact ⟨rfl, HB3.out⟩
      · have HG2 : Hid (G = 6) := Lib.hid (by rw [HG.out, HBAD.out (by rw [q1, q2]; rfl)]; rfl)
        clear HD HCK q1 q2 HBAD
        go_wp2_with (first | (refine wpList_load_ed (.tmp 30) rfl rfl b (o + j * 21) (by simp [Act.eval, Act.put]) d HE.out ?_) | (refine wpList_store_ed (.tmp 4) (.tmp 31) rfl rfl rfl (by simp [Act.eval, Act.put]) d (by simp [Act.eval, Act.put]) ?_) | (go_at_call 51; refine (KP1.out _).mono ?_; clear KP1; rintro e w2 ⟨rfl, hb⟩; refine Hid.out ?_))
        have HBa : Hid (Below wr.heap.size wr (wr.alloc (.cells d.cs 55))) := Lib.hid ((Below.refl _ _).alloc (Nat.le_refl _) _)
        have HB3 := Lib.hid (Below.chain HB.out (Below.chain (Below.chain HB2.out HBa.out) hb))
        obtain rfl := HG2.out
        clear hb q5 q6 y0 y1 y2 y3
        refine Lib.hid ?_
        go_wp2
        go_ret
        exact ⟨rfl, HB3.out⟩
      · have HG2 : Hid (G = 6) := Lib.hid (by rw [HG.out, HBAD.out (by rw [q1, q2]; rfl)]; rfl)
        clear HD HCK q1 q2 HBAD
        go_wp2_with (first | (refine wpList_load_ed (.tmp 30) rfl rfl b (o + j * 21) (by simp [Act.eval, Act.put]) d HE.out ?_) | (refine wpList_store_ed (.tmp 4) (.tmp 31) rfl rfl rfl (by simp [Act.eval, Act.put]) d (by simp [Act.eval, Act.put]) ?_) | (go_at_call 51; refine (KP1.out _).mono ?_; clear KP1; rintro e w2 ⟨rfl, hb⟩; refine Hid.out ?_))
        have HBa : Hid (Below wr.heap.size wr (wr.alloc (.cells d.cs 55))) := Lib.hid ((Below.refl _ _).alloc (Nat.le_refl _) _)
        have HB3 := Lib.hid (Below.chain HB.out (Below.chain (Below.chain HB2.out HBa.out) hb))
        have c0 := hb.cell (p := ⟨wr.heap.size, 1, none⟩) (by simp)
        rw [q6] at c0
        obtain ⟨y0, y1, y2, y3⟩ := (HY.out.below (HB2.out)).below (Below.chain HBa.out hb)
        clear hb q5 q6
        refine Lib.hid ?_
        go_wp2_with (go_at_call 51; refine (KP2.out _).mono ?_; clear KP2; rintro e w3 ⟨rfl, hb⟩; refine Hid.out ?_)
        have HB4 := Lib.hid (Below.chain HB3.out hb)
        obtain rfl := HG2.out
        clear hb c0 y0 y1 y2 y3
        refine Lib.hid ?_
        go_wp2
        go_ret
        exact ⟨rfl, HB4.out⟩
    · have hjn : j = N := by omega
      subst hjn
      have e1 := HG.out
      rw [← List.take_length (l := E), HN.out, HCK.out, if_pos rfl] at e1
      subst e1
      obtain ⟨y0, y1, y2, y3⟩ := HY.out.below HB2.out
      have HB3 := Lib.hid (Below.chain HB.out HB2.out)
      go_wp2
      go_ret
      exact ⟨rfl, HB3.out⟩
end Go.Proofs.Ytaonhipamobbaaa
namespace Go.Proofs.Ytaonhipamobbaaa
open Go Go.Proofs Go.RowKit

theorem isPt_false {n p : Int} (h : isPt n p = false) : p < 0 ∨ n ≤ p := by
  unfold isPt at h
  simp only [Bool.and_eq_false_iff, decide_eq_false_iff_not] at h
  omega
theorem isPt_true {n p : Int} (h : isPt n p = true) : 0 ≤ p ∧ p < n := by
  unfold isPt at h
  simp only [Bool.and_eq_true, decide_eq_true_eq] at h
  omega
theorem isPt_of {n p : Int} (h : 0 ≤ p ∧ p < n) : isPt n p = true := by
  unfold isPt
  simp only [Bool.and_eq_true, decide_eq_true_eq]
  omega
theorem isPt_not {n p : Int} (h : p < 0 ∨ n ≤ p) : isPt n p = false := by
  cases e : isPt n p with
  | false => rfl
  | true => have := isPt_true e; omega
set_option maxRecDepth 20000 in
set_option maxHeartbeats 4000000 in
theorem refCheck_any {A : Nat → Prop} (n x : Int) (ao : Option Addr) (c : Nat) (E : List Ed) (w : World) (hr : ERow A w ao c E) :
    Calls Try.prog 22 #[.agg #[.int .i64 n, .int .i64 x, .slice ao E.length c]] w fun e w' => e = .returned (.int .i64 (ckG n x E : Nat)) ∧ Below w.heap.size w w' := by
  have hA : Below w.heap.size w (w.alloc (Obj.cells #[.int .i64 n, .int .i64 x, .slice ao E.length c] 24)) := (Below.refl _ _).alloc (Nat.le_refl _) _
  have hX := GBx.new w n x ao E.length c
  unfold ckG
  cases g1 : decide (n < 1) with
  | true =>
    rw [decide_eq_true_eq] at g1
    rw [if_pos (Or.inl g1)]
    clear hr
    go_enter Try.func22, Try.ntmps22
    go_wp2
    go_ret
    exact ⟨rfl, hA⟩
  | false =>
  cases g2 : decide (512 < n) with
  | true =>
    rw [decide_eq_true_eq] at g2
    rw [if_pos (Or.inr g2)]
    clear hr
    go_enter Try.func22, Try.ntmps22
    go_wp2
    go_ret
    exact ⟨rfl, hA⟩
  | false =>
  rw [if_neg (by rw [decide_eq_false_iff_not] at g1 g2; omega)]
  cases g3 : decide (x < 0) with
  | true =>
    rw [decide_eq_true_eq] at g3
    rw [if_pos (isPt_not (Or.inl g3))]
    clear hr
    go_enter Try.func22, Try.ntmps22
    go_wp2
    go_ret
    exact ⟨rfl, hA⟩
  | false =>
  cases g6 : decide (n ≤ x) with
  | true =>
    rw [decide_eq_true_eq] at g6
    rw [if_pos (isPt_not (Or.inr g6))]
    clear hr
    go_enter Try.func22, Try.ntmps22
    go_wp2
    go_ret
    exact ⟨rfl, hA⟩
  | false =>
  rw [if_neg (by rw [decide_eq_false_iff_not] at g3 g6; rw [isPt_of (by omega)]; simp)]
  cases g4 : decide (1024 < E.length) with
  | true =>
    rw [decide_eq_true_eq] at g4
    rw [if_pos g4]
    have g5 : (1024 : Int) < (E.length : Int) := by omega
    clear hr
    go_enter Try.func22, Try.ntmps22
    go_wp2
    go_ret
    exact ⟨rfl, hA⟩
  | false =>
  rw [decide_eq_false_iff_not] at g4
  rw [if_neg g4]
  have g5 : ¬ (1024 : Int) < (E.length : Int) := by omega
  have hlen : E.length ≤ 1024 := by omega
  have hat : ∀ j, j < E.length → ∃ b o, ao = some ⟨b, o, none⟩ ∧ b < w.heap.size ∧ EdAt w b (o + j * 21) (edD E j) := fun j hj => by
    obtain ⟨b, o, e, -, h1, h2, -⟩ := hr.get j hj
    exact ⟨b, o, e, h1, h2⟩
  obtain ⟨G, hG⟩ : ∃ G : Nat, G = (if ckEs n E = true then 0 else 6) := ⟨_, rfl⟩
  rw [← hG]
  have HA := Lib.hid hA; have HX := Lib.hid hX; have HAT := Lib.hid hat; have HG := Lib.hid hG; have HL := Lib.hid hlen
  obtain ⟨N, hN⟩ : ∃ N, E.length = N := ⟨_, rfl⟩
  obtain ⟨y0, y1, y2, y3⟩ := hX
  clear hA hr hat hG hlen g4
  rw [hN] at HA HX g5 y0 y1 y2 y3 ⊢
  have HN := Lib.hid hN; clear hN
  go_enter Try.func22, Try.ntmps22
  go_wp2_with fail
  go_loopw [3] (fun iv wr => ∃ j : Nat, j ≤ N ∧ iv = .int .i64 (j : Int) ∧ ckEs n (E.take j) = true ∧ Below (w.heap.size + 1) (w.alloc (Obj.cells #[.int .i64 n, .int .i64 x, .slice ao N c] 24)) wr) (fun iv _ => N - (intOf iv).toNat)
  case atStart => exact ⟨0, Nat.zero_le _, rfl, rfl, Below.refl _ _⟩
  case round =>
    obtain ⟨j, hj, rfl, hck, hB⟩ := hrel
    have hB' : Below (w.alloc (Obj.cells #[.int .i64 n, .int .i64 x, .slice ao N c] 24)).heap.size (w.alloc (Obj.cells #[.int .i64 n, .int .i64 x, .slice ao N c] 24)) wr := by simpa using hB
    have HB2 := Lib.hid hB'; have HCK := Lib.hid hck; clear hB hB' hck y0 y1 y2 y3
    obtain ⟨y0, y1, y2, y3⟩ := HX.out.below HB2.out
    by_cases hlt : j < N
    · have hlt' : j < E.length := by rw [HN.out]; exact hlt
      obtain ⟨b, o, rfl, hbl, he⟩ := HAT.out j hlt'
      have he2 := he.below (Below.chain HA.out HB2.out) hbl
      have hd := ckEs_take (n := n) hlt'
      have hbad := fun h => ckEs_bad (n := n) hlt' h
      have HD := Lib.hid hd; have HBAD := Lib.hid hbad
      clear hd hbad he hlt' hbl
      generalize edD E j = d at *
      have HE := Lib.hid he2
      have q5 := ed_box0 wr d; have q6 := ed_box1 wr d
      have HBa : Hid (Below wr.heap.size wr (wr.alloc (.cells d.cs 55))) := Lib.hid ((Below.refl _ _).alloc (Nat.le_refl _) _)
      have HB3 := Lib.hid (Below.chain HB2.out HBa.out)
      clear he2 HBa
      have hbad : ∀ (h : (isPt n d.f && isPt n d.t) = false), G = 6 := fun h => by rw [HG.out, HBAD.out h]; rfl
      have HB6 := Lib.hid hbad; clear hbad
      cases r1 : decide (d.f < 0) with
      | true =>
        rw [decide_eq_true_eq] at r1
        obtain rfl := HB6.out (by rw [isPt_not (Or.inl r1)]; rfl)
        go_wp2_with (first | (refine wpList_load_ed (.tmp 40) rfl rfl b (o + j * 21) (by simp [Act.eval, Act.put]) d HE.out ?_) | (refine wpList_store_ed (.tmp 4) (.tmp 41) rfl rfl rfl (by simp [Act.eval, Act.put]) d (by simp [Act.eval, Act.put]) ?_))
        go_ret
        exact ⟨rfl, (Below.chain HA.out HB3.out)⟩
      | false =>
      cases r2 : decide (n ≤ d.f) with
      | true =>
        rw [decide_eq_true_eq] at r2
        obtain rfl := HB6.out (by rw [isPt_not (Or.inr r2)]; rfl)
        go_wp2_with (first | (refine wpList_load_ed (.tmp 40) rfl rfl b (o + j * 21) (by simp [Act.eval, Act.put]) d HE.out ?_) | (refine wpList_store_ed (.tmp 4) (.tmp 41) rfl rfl rfl (by simp [Act.eval, Act.put]) d (by simp [Act.eval, Act.put]) ?_))
        go_ret
        exact ⟨rfl, (Below.chain HA.out HB3.out)⟩
      | false =>
      cases r3 : decide (d.t < 0) with
      | true =>
        rw [decide_eq_true_eq] at r3
        obtain rfl := HB6.out (by rw [isPt_not (p := d.t) (Or.inl r3), Bool.and_false])
        go_wp2_with (first | (refine wpList_load_ed (.tmp 40) rfl rfl b (o + j * 21) (by simp [Act.eval, Act.put]) d HE.out ?_) | (refine wpList_store_ed (.tmp 4) (.tmp 41) rfl rfl rfl (by simp [Act.eval, Act.put]) d (by simp [Act.eval, Act.put]) ?_))
        go_ret
        exact ⟨rfl, (Below.chain HA.out HB3.out)⟩
      | false =>
      cases r4 : decide (n ≤ d.t) with
      | true =>
        rw [decide_eq_true_eq] at r4
        obtain rfl := HB6.out (by rw [isPt_not (p := d.t) (Or.inr r4), Bool.and_false])
        go_wp2_with (first | (refine wpList_load_ed (.tmp 40) rfl rfl b (o + j * 21) (by simp [Act.eval, Act.put]) d HE.out ?_) | (refine wpList_store_ed (.tmp 4) (.tmp 41) rfl rfl rfl (by simp [Act.eval, Act.put]) d (by simp [Act.eval, Act.put]) ?_))
        go_ret
        exact ⟨rfl, (Below.chain HA.out HB3.out)⟩
      | false =>
        have HC2 : Hid (ckEs n (E.take (j + 1)) = true) := Lib.hid (by
          rw [decide_eq_false_iff_not] at r1 r2 r3 r4
          rw [HD.out, HCK.out, isPt_of (p := d.f) (by omega), isPt_of (p := d.t) (by omega)]; rfl)
        go_wp2_with (first | (refine wpList_load_ed (.tmp 40) rfl rfl b (o + j * 21) (by simp [Act.eval, Act.put]) d HE.out ?_) | (refine wpList_store_ed (.tmp 4) (.tmp 41) rfl rfl rfl (by simp [Act.eval, Act.put]) d (by simp [Act.eval, Act.put]) ?_))
        go_roundw
        case rel => exact ⟨j + 1, by omega, by go_num, HC2.out, by have := HB3.out; simpa using this⟩
        case measure => simp [intOf]; omega
    · have hjn : j = N := by omega
      subst hjn
      have e1 := HG.out
      rw [← List.take_length (l := E), HN.out, HCK.out, if_pos rfl] at e1
      subst e1
      have HB3 := Lib.hid (Below.chain HA.out HB2.out)
      go_wp2
      go_ret
      exact ⟨rfl, HB3.out⟩
/-- Whether a graph is small. -/
def fewG (n : Int) (E : List Ed) : Bool := decide (n ≤ 16) && decide (E.length ≤ 40)
theorem few_any (n x : Int) (ao : Option Addr) (c : Nat) (E : List Ed) (w : World) :
    Calls Try.prog 13 #[.agg #[.int .i64 n, .int .i64 x, .slice ao E.length c]] w fun e w' => e = .returned (.bool (fewG n E)) ∧ Below w.heap.size w w' := by
  unfold fewG
  generalize E.length = m
  cases h1 : decide (n ≤ 16) <;> cases h2 : decide (m ≤ 40)
  all_goals
    have h3 : decide ((m : Int) ≤ 40) = decide (m ≤ 40) := by rw [decide_eq_decide]; omega
    rw [h2] at h3
    clear h2
    go_enter Try.func13, Try.ntmps13
    go_wp2
    go_ret
    exact ⟨rfl, by go_grown⟩
end Go.Proofs.Ytaonhipamobbaaa
