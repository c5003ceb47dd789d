import Derived.Test.YtjjkabgbcflipaaCu1
import Derived.ChangeMaps5
import Derived.Lib.SmallJoins
import Derived.Deep.Slices
set_option linter.unusedSimpArgs false
set_option linter.unusedVariables false
namespace Go.Proofs.Ytjjkabgbcflipaa
open Go Go.Proofs Go.RowKit Go.ChangeShapes Go.WideShapes Go.ChangeMaps

section
variable {H : Type} {enc : TypeId × Value → H} {w : World}
theorem leafI {fuel : Nat} {t : TypeId} {c : Value} {x : DataW H × List MemPlace} (ht : Try.prog.underlying t = some (.int .i64)) (h : DataW.trod enc Try.prog w 0 (fun _ => true) true fuel t [c] = some x) : ∃ z, c = .int .i64 z := by
  obtain ⟨n, e, -⟩ := DataW.trod_int ht h
  cases e; exact ⟨n, rfl⟩
theorem leafS {fuel : Nat} {t : TypeId} {c : Value} {x : DataW H × List MemPlace} (ht : Try.prog.underlying t = some .string) (h : DataW.trod enc Try.prog w 0 (fun _ => true) true fuel t [c] = some x) : ∃ z, c = .string z := by
  obtain ⟨n, e, -⟩ := DataW.trod_string ht h
  cases e; exact ⟨n, rfl⟩
theorem leafL {fuel : Nat} {t e : TypeId} {c : Value} {x : DataW H × List MemPlace} (ht : Try.prog.underlying t = some (.slice e)) (h : DataW.trod enc Try.prog w 0 (fun _ => true) true fuel t [c] = some x) : ∃ o n k, c = .slice o n k := by
  rcases DataW.trod_slice ht h with ⟨e, -⟩ | ⟨a, len, cap, _, _, _, _, e, -⟩
  · cases e; exact ⟨_, _, _, rfl⟩
  · cases e; exact ⟨_, _, _, rfl⟩
theorem fld {fuel : Nat} {t : TypeId} {fs : Array Field} {cs : List Value} {x : DataW H × List MemPlace} (ht : Try.prog.underlying t = some (.struct fs)) (h : DataW.trod enc Try.prog w 0 (fun _ => true) true fuel t cs = some x)
    (i : Nat) (f : Field) (tt : TypeId) (o m : Nat) (hf : fs[i]? = some f) (h1 : f.type = tt) (h2 : f.offset = o) (h3 : Try.prog.cellsOf tt = m) : ∃ n y, DataW.trod enc Try.prog w 0 (fun _ => true) true n tt ((cs.drop o).take m) = some y := by
  obtain ⟨xs, n, -, -, -, hx, hg⟩ := DataW.trod_struct ht h
  have g := hg i f hf
  have hi : i < xs.length := by rw [hx]; exact (Array.getElem?_eq_some_iff.1 hf).1
  rw [List.getElem?_eq_getElem hi, h1, h2, h3] at g
  exact ⟨n, _, g⟩
theorem len_of {fuel : Nat} {t : TypeId} {fs : Array Field} {cs : List Value} {x : DataW H × List MemPlace} (ht : Try.prog.underlying t = some (.struct fs)) (h : DataW.trod enc Try.prog w 0 (fun _ => true) true fuel t cs = some x) (m : Nat) (h3 : Try.prog.cellsOf t = m) : cs.length = m := by
  obtain ⟨xs, n, -, -, hl, -⟩ := DataW.trod_struct ht h
  exact hl.trans h3
theorem k_int : Try.prog.cellsOf 3 = 1 := by kernel_rfl
theorem k_str : Try.prog.cellsOf 44 = 1 := by kernel_rfl
theorem k_sx : Try.prog.cellsOf 45 = 1 := by kernel_rfl
theorem k_sc : Try.prog.cellsOf 48 = 1 := by kernel_rfl
theorem k_si : Try.prog.cellsOf 51 = 1 := by kernel_rfl
theorem k_se : Try.prog.cellsOf 22 = 1 := by kernel_rfl
theorem k_x : Try.prog.cellsOf 47 = 4 := by kernel_rfl
theorem k_c : Try.prog.cellsOf 50 = 3 := by kernel_rfl
theorem k_m : Try.prog.cellsOf 53 = 19 := by kernel_rfl
theorem k_e : Try.prog.cellsOf 55 = 21 := by kernel_rfl
theorem k_g : Try.prog.cellsOf 24 = 3 := by kernel_rfl
theorem ex_of {fuel : Nat} {cs : List Value} {x : DataW H × List MemPlace} (h : DataW.trod enc Try.prog w 0 (fun _ => true) true fuel 47 cs = some x) : ∃ z s y o n c, cs = [.int .i64 z, .string s, .int .i64 y, .slice o n c] := by
  have hl := len_of Try.underlying47 h 4 k_x
  match cs, hl with
  | [c0, c1, c2, c3], _ =>
    obtain ⟨n0, y0, g0⟩ := fld Try.underlying47 h 0 _ 3 0 1 rfl rfl rfl k_int
    have g0' : DataW.trod enc Try.prog w 0 (fun _ => true) true n0 3 [c0] = some y0 := g0
    obtain ⟨z0, rfl⟩ := leafI Try.underlying3 g0'
    obtain ⟨n1, y1, g1⟩ := fld Try.underlying47 h 1 _ 44 1 1 rfl rfl rfl k_str
    have g1' : DataW.trod enc Try.prog w 0 (fun _ => true) true n1 44 [c1] = some y1 := g1
    obtain ⟨z1, rfl⟩ := leafS Try.underlying44 g1'
    obtain ⟨n2, y2, g2⟩ := fld Try.underlying47 h 2 _ 3 2 1 rfl rfl rfl k_int
    have g2' : DataW.trod enc Try.prog w 0 (fun _ => true) true n2 3 [c2] = some y2 := g2
    obtain ⟨z2, rfl⟩ := leafI Try.underlying3 g2'
    obtain ⟨n3, y3, g3⟩ := fld Try.underlying47 h 3 _ 45 3 1 rfl rfl rfl k_sx
    have g3' : DataW.trod enc Try.prog w 0 (fun _ => true) true n3 45 [c3] = some y3 := g3
    obtain ⟨o3, l3, k3, rfl⟩ := leafL Try.underlying45 g3'
    exact ⟨_, _, _, _, _, _, rfl⟩
theorem co_of {fuel : Nat} {cs : List Value} {x : DataW H × List MemPlace} (h : DataW.trod enc Try.prog w 0 (fun _ => true) true fuel 50 cs = some x) : ∃ z o n c o2 n2 c2, cs = [.int .i64 z, .slice o n c, .slice o2 n2 c2] := by
  have hl := len_of Try.underlying50 h 3 k_c
  match cs, hl with
  | [c0, c1, c2], _ =>
    obtain ⟨n0, y0, g0⟩ := fld Try.underlying50 h 0 _ 3 0 1 rfl rfl rfl k_int
    have g0' : DataW.trod enc Try.prog w 0 (fun _ => true) true n0 3 [c0] = some y0 := g0
    obtain ⟨z0, rfl⟩ := leafI Try.underlying3 g0'
    obtain ⟨n1, y1, g1⟩ := fld Try.underlying50 h 1 _ 45 1 1 rfl rfl rfl k_sx
    have g1' : DataW.trod enc Try.prog w 0 (fun _ => true) true n1 45 [c1] = some y1 := g1
    obtain ⟨o1, l1, k1, rfl⟩ := leafL Try.underlying45 g1'
    obtain ⟨n2, y2, g2⟩ := fld Try.underlying50 h 2 _ 48 2 1 rfl rfl rfl k_sc
    have g2' : DataW.trod enc Try.prog w 0 (fun _ => true) true n2 48 [c2] = some y2 := g2
    obtain ⟨o2, l2, k2, rfl⟩ := leafL Try.underlying48 g2'
    exact ⟨_, _, _, _, _, _, _, rfl⟩
theorem cm_of {fuel : Nat} {cs : List Value} {x : DataW H × List MemPlace} (h : DataW.trod enc Try.prog w 0 (fun _ => true) true fuel 53 cs = some x) : ∃ d : Ed, [.int .i64 0, .int .i64 0] ++ cs = { d with f := 0, t := 0 }.cs.toList := by
  have hl := len_of Try.underlying53 h 19 k_m
  match cs, hl with
  | [c0, c1, c2, c3, c4, c5, c6, c7, c8, c9, c10, c11, c12, c13, c14, c15, c16, c17, c18], _ =>
    obtain ⟨n0, y0, g0⟩ := fld Try.underlying53 h 0 _ 3 0 1 rfl rfl rfl k_int
    have g0' : DataW.trod enc Try.prog w 0 (fun _ => true) true n0 3 [c0] = some y0 := g0
    obtain ⟨z0, rfl⟩ := leafI Try.underlying3 g0'
    obtain ⟨n1, y1, g1⟩ := fld Try.underlying53 h 1 _ 3 1 1 rfl rfl rfl k_int
    have g1' : DataW.trod enc Try.prog w 0 (fun _ => true) true n1 3 [c1] = some y1 := g1
    obtain ⟨z1, rfl⟩ := leafI Try.underlying3 g1'
    obtain ⟨n2, y2, g2⟩ := fld Try.underlying53 h 2 _ 3 2 1 rfl rfl rfl k_int
    have g2' : DataW.trod enc Try.prog w 0 (fun _ => true) true n2 3 [c2] = some y2 := g2
    obtain ⟨z2, rfl⟩ := leafI Try.underlying3 g2'
    obtain ⟨n3, y3, g3⟩ := fld Try.underlying53 h 3 _ 3 3 1 rfl rfl rfl k_int
    have g3' : DataW.trod enc Try.prog w 0 (fun _ => true) true n3 3 [c3] = some y3 := g3
    obtain ⟨z3, rfl⟩ := leafI Try.underlying3 g3'
    obtain ⟨n4, y4, g4⟩ := fld Try.underlying53 h 4 _ 3 4 1 rfl rfl rfl k_int
    have g4' : DataW.trod enc Try.prog w 0 (fun _ => true) true n4 3 [c4] = some y4 := g4
    obtain ⟨z4, rfl⟩ := leafI Try.underlying3 g4'
    obtain ⟨n5, y5, g5⟩ := fld Try.underlying53 h 5 _ 3 5 1 rfl rfl rfl k_int
    have g5' : DataW.trod enc Try.prog w 0 (fun _ => true) true n5 3 [c5] = some y5 := g5
    obtain ⟨z5, rfl⟩ := leafI Try.underlying3 g5'
    obtain ⟨n6, y6, g6⟩ := fld Try.underlying53 h 6 _ 47 6 4 rfl rfl rfl k_x
    have g6' : DataW.trod enc Try.prog w 0 (fun _ => true) true n6 47 [c6, c7, c8, c9] = some y6 := g6
    obtain ⟨za6, sb6, yc6, o6, l6, k6, e6⟩ := ex_of g6'; cases e6
    obtain ⟨n7, y7, g7⟩ := fld Try.underlying53 h 7 _ 47 10 4 rfl rfl rfl k_x
    have g7' : DataW.trod enc Try.prog w 0 (fun _ => true) true n7 47 [c10, c11, c12, c13] = some y7 := g7
    obtain ⟨za7, sb7, yc7, o7, l7, k7, e7⟩ := ex_of g7'; cases e7
    obtain ⟨n8, y8, g8⟩ := fld Try.underlying53 h 8 _ 50 14 3 rfl rfl rfl k_c
    have g8' : DataW.trod enc Try.prog w 0 (fun _ => true) true n8 50 [c14, c15, c16] = some y8 := g8
    obtain ⟨za8, o8, l8, k8, oo8, ll8, kk8, e8⟩ := co_of g8'; cases e8
    obtain ⟨n9, y9, g9⟩ := fld Try.underlying53 h 9 _ 45 17 1 rfl rfl rfl k_sx
    have g9' : DataW.trod enc Try.prog w 0 (fun _ => true) true n9 45 [c17] = some y9 := g9
    obtain ⟨o9, l9, k9, rfl⟩ := leafL Try.underlying45 g9'
    obtain ⟨n10, y10, g10⟩ := fld Try.underlying53 h 10 _ 51 18 1 rfl rfl rfl k_si
    have g10' : DataW.trod enc Try.prog w 0 (fun _ => true) true n10 51 [c18] = some y10 := g10
    obtain ⟨o10, l10, k10, rfl⟩ := leafL Try.underlying51 g10'
    exact ⟨⟨0, 0, z0, z1, z2, z3, z4, z5, za6, sb6, yc6, o6, l6, k6, za7, sb7, yc7, o7, l7, k7, za8, o8, l8, k8, oo8, ll8, kk8, o9, l9, k9, o10, l10, k10⟩, rfl⟩
theorem ed_of {fuel : Nat} {cs : List Value} {x : DataW H × List MemPlace} (h : DataW.trod enc Try.prog w 0 (fun _ => true) true fuel 55 cs = some x) : ∃ d : Ed, cs = d.cs.toList := by
  have hl := len_of Try.underlying55 h 21 k_e
  match cs, hl with
  | [c0, c1, c2, c3, c4, c5, c6, c7, c8, c9, c10, c11, c12, c13, c14, c15, c16, c17, c18, c19, c20], _ =>
    obtain ⟨n0, y0, g0⟩ := fld Try.underlying55 h 0 _ 3 0 1 rfl rfl rfl k_int
    have g0' : DataW.trod enc Try.prog w 0 (fun _ => true) true n0 3 [c0] = some y0 := g0
    obtain ⟨z0, rfl⟩ := leafI Try.underlying3 g0'
    obtain ⟨n1, y1, g1⟩ := fld Try.underlying55 h 1 _ 3 1 1 rfl rfl rfl k_int
    have g1' : DataW.trod enc Try.prog w 0 (fun _ => true) true n1 3 [c1] = some y1 := g1
    obtain ⟨z1, rfl⟩ := leafI Try.underlying3 g1'
    obtain ⟨n2, y2, g2⟩ := fld Try.underlying55 h 2 _ 53 2 19 rfl rfl rfl k_m
    have g2' : DataW.trod enc Try.prog w 0 (fun _ => true) true n2 53 [c2, c3, c4, c5, c6, c7, c8, c9, c10, c11, c12, c13, c14, c15, c16, c17, c18, c19, c20] = some y2 := g2
    obtain ⟨d, e2⟩ := cm_of g2'
    exact ⟨{ d with f := z0, t := z1 }, by have := congrArg (List.drop 2) e2; simp only [List.cons_append, List.nil_append, List.drop_succ_cons, List.drop_zero] at this; rw [this]; rfl⟩
theorem gadd (b o j : Nat) : (⟨b, o, none⟩ : Addr).add j = ⟨b, o + j, none⟩ := by unfold Addr.add; split <;> simp_all
theorem edCells_get : ∀ (l : List Ed) (j : Nat) (u : Value), (edCells l)[j]? = some u → ∃ i r, i < l.length ∧ j = i * 21 + r ∧ (edD l i).cs[r]? = some u
  | [], j, u, h => by simp [edCells] at h
  | x :: l, j, u, h => by
    rw [edCells] at h
    have hs : x.cs.toList.length = 21 := x.good.size
    by_cases hj : j < 21
    · rw [List.getElem?_append_left (by omega)] at h
      exact ⟨0, j, by simp, by omega, by rw [← Array.getElem?_toList]; exact h⟩
    · rw [List.getElem?_append_right (by omega), hs] at h
      obtain ⟨i, r, hi, e, hr⟩ := edCells_get l (j - 21) u h
      exact ⟨i + 1, r, by simpa using hi, by omega, hr⟩
theorem ERow.open {fuel : Nat} {v : Value} {x : DataW H × List MemPlace} (h : DataW.trod enc Try.prog w 0 (fun _ => true) true fuel 22 [v] = some x) : ∃ (ao : Option Addr) (c : Nat) (l : List Ed), v = .slice ao l.length c ∧ ERow (fun _ => True) w ao c l := by
  rcases Go.Deep.open_slice Try.underlying22 h with ⟨e, -⟩ | ⟨a, len, cap, m, n, D, Pl, e, -, hl, hm, hmm, -, hel⟩
  · cases e
    exact ⟨none, 0, [], rfl, Nat.le_refl _, by decide, fun x hx => by simp at hx, .inl rfl⟩
  · cases e
    simp only [if_true] at hmm
    subst hmm
    have hall : ∀ i, i < len → ∃ d : Ed, ∀ r u, d.cs[r]? = some u → w.cell? ((a.add (i * 21)).add r) = some u := fun i hi => by
      obtain ⟨cs', h1, h2⟩ := hel i (by omega)
      rw [k_e] at h1
      obtain ⟨d, rfl⟩ := ed_of h2
      obtain ⟨-, h4, h5⟩ := World.cells?_some h1
      refine ⟨d, fun r u hu => ?_⟩
      have hr : r < 21 := by
        have := (Array.getElem?_eq_some_iff.1 hu).1
        have e := d.good.size
        omega
      rw [h5 r hr, Array.getElem?_toList]; exact hu
    haveI : Inhabited Ed := ⟨edD [] 0⟩
    obtain ⟨F, hF⟩ := Go.Deep.choose_lt hall
    have e1 : ((List.range len).map F).length = len := by simp
    refine ⟨some a, m, (List.range len).map F, by rw [e1], by rw [e1]; exact hl, hm, fun x _ => x.good, ?_⟩
    rcases Nat.eq_zero_or_pos len with h0 | h0
    · subst h0; exact .inl rfl
    · have c0 := hF 0 h0 0 _ (F 0).good.f0
      obtain ⟨b, off, sp⟩ := a
      have hsp : sp = none := by
        cases sp with
        | none => rfl
        | some q =>
          simp only [Addr.add, World.cell?] at c0
          split at c0 <;> simp at c0
      subst hsp
      refine .inr ⟨b, off, rfl, trivial, ?_, fun j u hu => ?_⟩
      · simp only [Addr.add, World.cell?] at c0
        split at c0
        · rename_i hh
          exact (Array.getElem?_eq_some_iff.1 hh).1
        · cases c0
      · obtain ⟨i, r, hi, rfl, hr⟩ := edCells_get _ j u hu
        rw [e1] at hi
        rw [edD_eq (by rw [e1]; exact hi), List.getElem_map, List.getElem_range] at hr
        have := hF i hi r u hr
        rw [gadd, gadd, Nat.add_assoc] at this
        exact this
set_option maxRecDepth 100000 in
theorem open_graph {r : Reach} {b0 : Nat} {v : Value} {d : DataW H} {ps : List MemPlace}
    (hv : Value.okWide Try.prog w r b0 24 v) (h : DataW.Trod enc Try.prog w 0 (fun _ => true) true 24 v d ps) :
    ∃ (n x : Int) (ao : Option Addr) (c : Nat) (E : List Ed), v = .agg #[.int .i64 n, .int .i64 x, .slice ao E.length c] ∧ ERow (fun _ => True) w ao c E := by
  obtain ⟨cs, rfl, hsz⟩ := okWide_struct Try.underlying24 hv
  rw [k_g] at hsz
  obtain ⟨fuel, hf⟩ := h
  have hf2 : DataW.trod enc Try.prog w 0 (fun _ => true) true fuel 24 cs.toList = some (d, ps) := hf
  obtain ⟨L⟩ := cs
  match L, hsz with
  | [c0, c1, c2], _ =>
    obtain ⟨n0, y0, g0⟩ := fld Try.underlying24 hf2 0 _ 3 0 1 rfl rfl rfl k_int
    obtain ⟨n1, y1, g1⟩ := fld Try.underlying24 hf2 1 _ 3 1 1 rfl rfl rfl k_int
    obtain ⟨n2, y2, g2⟩ := fld Try.underlying24 hf2 2 _ 22 2 1 rfl rfl rfl k_se
    have g0' : DataW.trod enc Try.prog w 0 (fun _ => true) true n0 3 [c0] = some y0 := g0
    have g1' : DataW.trod enc Try.prog w 0 (fun _ => true) true n1 3 [c1] = some y1 := g1
    have g2' : DataW.trod enc Try.prog w 0 (fun _ => true) true n2 22 [c2] = some y2 := g2
    obtain ⟨n, rfl⟩ := leafI Try.underlying3 g0'
    obtain ⟨x, rfl⟩ := leafI Try.underlying3 g1'
    obtain ⟨ao, c, E, rfl, hE⟩ := ERow.open g2'
    exact ⟨n, x, ao, c, E, rfl, hE⟩
end
theorem graph_own : ownKnob Try.prog.godebug = none := by kernel_rfl
theorem graph_laidOut : laidOutB Try.prog = true := by kernel_rfl
end Go.Proofs.Ytjjkabgbcflipaa
