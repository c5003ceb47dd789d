/-
  What the rows of sign say of the listed variables.
-/
import Derived.Test.YtmnbjkbkjmgmkaaDoorRows
import Derived.Test.YtmnbjkbkjmgmkaaDoorSgB
import Derived.HandedShaped
import Derived.Handed
import Derived.Lay
import Derived.LaidMore
import Derived.LaidLaws
import Derived.LaidHandle
import Derived.MakeChecks
import Derived.Lib.LaidTab
import Derived.Stop.Joined
import Derived.Stop.LaidErr
import Derived.OpenShut
import Derived.ProofKit
import Derived.DataShut
set_option linter.unusedSimpArgs false
set_option linter.unusedVariables false
namespace Go.Proofs.YtmnbjkbkjmgmkaaDoor
open Go Go.Proofs Go.RowKit

theorem lexOwn : ownKnob Tryd.prog.godebug = none := by kernel_rfl
/-- Rows of equal length, one behind the other. -/
theorem flat_of_chunks {m : Nat} : ∀ (L : List (List Value)) (cs : List Value), cs.length = L.length * m → (∀ i r, L[i]? = some r → (cs.drop (i * m)).take m = r) → cs = L.flatten
  | [], cs, hl, _ => by
    have : cs.length = 0 := by simpa using hl
    rw [List.length_eq_zero_iff.1 this]; rfl
  | r :: L, cs, hl, h => by
    have h0 := h 0 r rfl
    simp only [Nat.zero_mul, List.drop_zero] at h0
    have h1 := flat_of_chunks L (cs.drop m) (by rw [List.length_drop, hl, List.length_cons, Nat.add_one_mul, Nat.add_sub_cancel]) (fun i r' hr => by
      have := h (i + 1) r' (by simpa using hr)
      rw [List.drop_drop]
      rwa [show m + i * m = (i + 1) * m by rw [Nat.succ_mul]; omega])
    rw [List.flatten_cons, ← h1, ← h0, List.take_append_drop]
/-- An array that reads as the data D of a list holds these, one behind the other. -/
theorem cells_of_arr {H α : Type} {enc : TypeId × Value → H} {P : Program} {w : World} {base : Nat} {sp : Nat → Bool} {held : Bool} {fuel : Nat} {t e : TypeId} {n m : Nat} {cs : List Value} {p : List MemPlace} {L : List α} {D : α → DataW H} {F : α → List Value}
    (ht : P.underlying t = some (.array n e)) (hce : P.cellsOf e = m) (hct : P.cellsOf t = n * m)
    (hel : ∀ (a : α) (cs' : List Value) (f : Nat) (q : List MemPlace), a ∈ L → DataW.trod enc P w base sp held f e cs' = some (D a, q) → cs' = F a)
    (h : DataW.trod enc P w base sp held fuel t cs = some (.agg (L.map D), p)) : cs = L.flatMap F := by
  obtain ⟨xs, f, -, hx, hl, hn, hall⟩ := DataW.trod_array ht h
  have hd : xs.map (·.1) = L.map D := by
    have := congrArg Prod.fst hx
    simpa using this.symm
  have hLn : L.length = n := by
    have := congrArg List.length hd
    simp at this; omega
  rw [List.flatMap_def]
  refine flat_of_chunks _ cs (by rw [hl, hct, List.length_map, hLn]) (fun i r hr => ?_)
  rw [List.getElem?_map, Option.map_eq_some_iff] at hr
  obtain ⟨a, ha, rfl⟩ := hr
  have hi : i < n := by
    have := (List.getElem?_eq_some_iff.1 ha).1
    omega
  have h1 := hall i hi
  rw [hce] at h1
  have h2 : (xs.map (·.1))[i]? = (L.map D)[i]? := by rw [hd]
  rw [List.getElem?_map, List.getElem?_map, ha] at h2
  obtain ⟨y, hy, hy2⟩ := Option.map_eq_some_iff.1 h2
  rw [hy] at h1
  obtain ⟨y1, y2⟩ := y
  dsimp only at hy2
  subst hy2
  exact hel a _ f y2 (List.mem_of_getElem? ha) h1
def res3 : List (List (List Int)) := [[[1, 1, 7], [1, 2, 4], [7, 4, 4]], [[7, 1, 1], [4, 2, 1], [4, 4, 7]], [[4, 2, 1], [2, 2, 2], [1, 2, 4]], [[6, 0, 1], [2, 0, 2], [1, 0, 6]], [[3, 0, 6], [2, 0, 2], [3, 0, 6]]]
def par3 : List (List Int) := [[0, 0, 0], [0, 0, 0], [1, 2, 4], [7, 5, 7], [7, 4, 4], [7, 6, 4]]
def nam3 : List (List UInt8) := [[110, 111, 110, 101], [110, 101, 103, 97, 116, 105, 118, 101], [122, 101, 114, 111], [110, 111, 110, 112, 111, 115, 105, 116, 105, 118, 101], [112, 111, 115, 105, 116, 105, 118, 101], [110, 111, 110, 122, 101, 114, 111], [110, 111, 110, 110, 101, 103, 97, 116, 105, 118, 101], [97, 110, 121]]
theorem g_names : Tryd.prog.globalNamed "surveyor/sign.names" = some 0 := by kernel_rfl
theorem gt_names : (Tryd.prog.globals[0]?).map (·.type) = some 62 := by kernel_rfl
theorem g_results : Tryd.prog.globalNamed "surveyor/sign.results" = some 2 := by kernel_rfl
theorem gt_results : (Tryd.prog.globals[2]?).map (·.type) = some 83 := by kernel_rfl
theorem g_partners : Tryd.prog.globalNamed "surveyor/sign.partners" = some 1 := by kernel_rfl
theorem gt_partners : (Tryd.prog.globals[1]?).map (·.type) = some 72 := by kernel_rfl
theorem row3_of {H : Type} {enc : TypeId × Value → H} {w : World} {base : Nat} {sp : Nat → Bool} {held : Bool} {fuel : Nat} {cs : List Value} {zs : List Int} {p : List MemPlace}
    (h : DataW.trod enc Tryd.prog w base sp held fuel 71 cs = some (Lib.tabData .i64 zs, p)) : cs = zs.map fun z => Value.int .i64 z :=
  Lib.cells_of_tab Tryd.underlying71 Tryd.underlying3 (by kernel_rfl) (by kernel_rfl) h
theorem res_cells {H : Type} {enc : TypeId × Value → H} {w : World} {base : Nat} {sp : Nat → Bool} {held : Bool} {fuel : Nat} {cs : List Value} {p : List MemPlace}
    (h : DataW.trod enc Tryd.prog w base sp held fuel 83 cs = some (.agg (res3.map fun r => .agg (r.map (Lib.tabData .i64))), p)) : cs = res3.flatMap fun r => r.flatMap fun z => z.map fun z => Value.int .i64 z :=
  cells_of_arr (m := 9) Tryd.underlying83 (by kernel_rfl) (by kernel_rfl) (fun r cs' f q _ h => cells_of_arr (m := 3) Tryd.underlying82 (by kernel_rfl) (by kernel_rfl) (fun z cs' f q _ h => row3_of h) h) h
theorem par_cells {H : Type} {enc : TypeId × Value → H} {w : World} {base : Nat} {sp : Nat → Bool} {held : Bool} {fuel : Nat} {cs : List Value} {p : List MemPlace}
    (h : DataW.trod enc Tryd.prog w base sp held fuel 72 cs = some (.agg (par3.map (Lib.tabData .i64)), p)) : cs = par3.flatMap fun z => z.map fun z => Value.int .i64 z :=
  cells_of_arr (m := 3) Tryd.underlying72 (by kernel_rfl) (by kernel_rfl) (fun z cs' f q _ h => row3_of h) h
theorem nam_cells {H : Type} {enc : TypeId × Value → H} {w : World} {base : Nat} {sp : Nat → Bool} {held : Bool} {fuel : Nat} {cs : List Value} {p : List MemPlace}
    (h : DataW.trod enc Tryd.prog w base sp held fuel 62 cs = some (.agg (nam3.map fun s => .lit (.string s)), p)) : cs = nam3.flatMap fun s => [Value.string ⟨s.toArray⟩] :=
  cells_of_arr (m := 1) Tryd.underlying62 (by kernel_rfl) (by kernel_rfl) (fun s cs' f q _ h => by
    obtain ⟨b, rfl, hb, -⟩ := DataW.trod_string Tryd.underlying9 h
    simp only [Prod.mk.injEq, DataW.lit.injEq, Lit.string.injEq] at hb
    rw [hb.1]) h
theorem var_head {P : Program} {W : World} {name : String} {d : DataW Unit} {rest : List (String × DataW Unit)} {g : Nat} {t : TypeId} (hg : P.globalNamed name = some g) (hty : (P.globals[g]?).map (·.type) = some t)
    (h : laidMet P ((name, d) :: rest) W) : ∃ (cs : Array Value) (fuel : Nat) (p : List MemPlace), W.var? P name = some cs ∧ DataW.trod (fun _ => ()) P W 0 (fun _ => true) false fuel t cs.toList = some (d, p) := by
  obtain ⟨ps, ⟨g', t', cs, fuel, p, q, hg', ht', hvar, hd, _, _⟩, _⟩ := h
  obtain rfl := Option.some.inj (hg.symm.trans hg')
  obtain rfl := Option.some.inj (hty.symm.trans ht')
  exact ⟨cs, fuel, p, hvar, hd⟩
/-- The list of the rows. -/
def laidSg : List (String × DataW Unit) := [("surveyor/sign.names", Rows.laid_surveyor_sign_names), ("surveyor/sign.results", Rows.laid_surveyor_sign_results), ("surveyor/sign.partners", Rows.laid_surveyor_sign_partners)]
theorem lt_of_cell {W : World} {g k : Nat} {v : Value} (e : W.cell? ⟨g, k, none⟩ = some v) : g < W.heap.size := by
  rcases Nat.lt_or_ge g W.heap.size with q | q
  · exact q
  · simp [World.cell?, Array.getElem?_eq_none q] at e
theorem res_all : ∀ k : Fin 45, (res3.flatMap fun r => r.flatMap fun z => z.map fun z => Value.int .i64 z)[k.val]? = some (.int .i64 (resTab.getD k.val 0 : Nat)) := by
  intro k
  rcases k with ⟨k, hk⟩
  have : ∀ k : Fin 45, (res3.flatMap fun r => r.flatMap fun z => z)[k.val]? = some ((resTab.getD k.val 0 : Nat) : Int) := by decide
  have h1 := this ⟨k, hk⟩
  have h2 : (res3.flatMap fun r => r.flatMap fun z => z.map fun z => Value.int .i64 z) = (res3.flatMap fun r => r.flatMap fun z => z).map fun z => Value.int .i64 z := rfl
  rw [h2, List.getElem?_map, h1]; rfl
theorem par_all : ∀ k : Fin 18, (par3.flatMap fun z => z.map fun z => Value.int .i64 z)[k.val]? = some (.int .i64 (par18.getD k.val 0 : Nat)) := by
  intro k
  rcases k with ⟨k, hk⟩
  have : ∀ k : Fin 18, (par3.flatMap fun z => z)[k.val]? = some ((par18.getD k.val 0 : Nat) : Int) := by decide
  have h1 := this ⟨k, hk⟩
  have h2 : (par3.flatMap fun z => z.map fun z => Value.int .i64 z) = (par3.flatMap fun z => z).map fun z => Value.int .i64 z := rfl
  rw [h2, List.getElem?_map, h1]; rfl
theorem nam_all : ∀ k, k < 8 → (nam3.flatMap fun s => [Value.string ⟨s.toArray⟩])[k]? = some (.string (nameS k)) := by
  intro k hk
  rcases (show k = 0 ∨ k = 1 ∨ k = 2 ∨ k = 3 ∨ k = 4 ∨ k = 5 ∨ k = 6 ∨ k = 7 by omega) with rfl | rfl | rfl | rfl | rfl | rfl | rfl | rfl <;> rfl
set_option maxRecDepth 100000 in
theorem sg_of_laid {W : World} (h : laidMetH Tryd.prog laidSg W) : SgTab W := by
  rw [MakeChecks.laidMetH_plain _ _ _ (by kernel_rfl)] at h
  have h0 : laidMet Tryd.prog [("surveyor/sign.names", Rows.laid_surveyor_sign_names), ("surveyor/sign.results", Rows.laid_surveyor_sign_results), ("surveyor/sign.partners", Rows.laid_surveyor_sign_partners)] W := h
  obtain ⟨c_names, f_names, p_names, v_names, d_names⟩ := var_head g_names gt_names h0
  have e_names := nam_cells d_names
  have a_names := World.var?_cell g_names v_names
  have h1 : laidMet Tryd.prog [("surveyor/sign.results", Rows.laid_surveyor_sign_results), ("surveyor/sign.partners", Rows.laid_surveyor_sign_partners)] W := h0.tail
  obtain ⟨c_results, f_results, p_results, v_results, d_results⟩ := var_head g_results gt_results h1
  have e_results := res_cells d_results
  have a_results := World.var?_cell g_results v_results
  have h2 : laidMet Tryd.prog [("surveyor/sign.partners", Rows.laid_surveyor_sign_partners)] W := h1.tail
  obtain ⟨c_partners, f_partners, p_partners, v_partners, d_partners⟩ := var_head g_partners gt_partners h2
  have e_partners := par_cells d_partners
  have a_partners := World.var?_cell g_partners v_partners
  have r0 : ∀ k, k < 45 → W.cell? ⟨2, k, none⟩ = some (.int .i64 (resTab.getD k 0 : Nat)) := fun k hk => by
    rw [a_results k, ← Array.getElem?_toList, e_results]; exact res_all ⟨k, hk⟩
  have r1 : ∀ k, k < 18 → W.cell? ⟨1, k, none⟩ = some (.int .i64 (par18.getD k 0 : Nat)) := fun k hk => by
    rw [a_partners k, ← Array.getElem?_toList, e_partners]; exact par_all ⟨k, hk⟩
  have r2 : ∀ k, k < 8 → W.cell? ⟨0, k, none⟩ = some (.string (nameS k)) := fun k hk => by
    rw [a_names k, ← Array.getElem?_toList, e_names]; exact nam_all k hk
  exact ⟨lt_of_cell (r0 0 (by decide)), lt_of_cell (r1 0 (by decide)), lt_of_cell (r2 0 (by decide)), r0, r1, r2⟩
set_option maxRecDepth 100000 in
theorem sgDoor (os : Os) (args : Array Value) : laidMetH Tryd.prog laidSg ((World.laidAll Tryd.prog os laidSg).forCall (fun _ _ => 0) ⟨#[], args, []⟩).memory := by
  rw [MakeChecks.laidMetH_plain _ _ _ (by kernel_rfl)]
  exact laidMet_laidAll _ (by kernel_rfl) (by kernel_rfl)
theorem len_le {s : ByteArray} (h : s.size ≤ maxLen) : s.size ≤ 9223372036854775807 := h
/-- A row over listed variables whose walk needs the world's shape too. -/
theorem shaped_lift {H : Type} {enc : TypeId × Value → H} {a : Assume} {C : Checked} {os : Os} {f : FuncId} {fn : Func} {s : ChangeSpec} {conds : List PathCond} {apart fresh handsOn again : Bool} {X : World → Array Value → Prop}
    (hX : ∀ (v v' : World) (args : Array Value), v.heap = v'.heap → X v args → X v' args)
    (hown : ownKnob C.prog.godebug = none) (started : os.Started) (noInit : C.prog.inits.idxOf? f = none) (hfn : C.prog.funcs[f]? = some fn)
    (witness : ∃ (v : World) (tape : Tape) (i : Input), v.os = os ∧ (v.forCall tape i).Shaped C.prog ∧ i.vars = [] ∧ Input.okWide C.prog (v.forCall tape i) .any v.heap.size f i ∧
      ((s.pre enc C.prog fn conds apart (v.forCall tape i).memory i.args ∧ X (v.forCall tape i).memory i.args) ∧ sizedMet enc C.prog fn (OpenSpec.ofChange s) apart (v.forCall tape i).memory i.args) ∧ a.holds C.prog (lone (Frame.enter C.prog f i.args .normal) [] (v.forCall tape i)))
    (contract : ∀ (W : World) (base : Nat) (args : Array Value) (ds gs : List (DataW H)) (before : List MemPlace),
      (∀ (j : Nat) t v, fn.params[j]? = some t → args[j]? = some v → Value.okWide C.prog W .any base t v) →
      DataW.Whole enc C.prog fn.params.toList s.vars apart W args.toList ds gs before → X W args → W.ShapedOpen C.prog →
      Calls C.prog f args W fun e W' => ∃ v, e = .returned v ∧ s.post enc C.prog fn apart fresh handsOn again W args v W') :
    ReturnsInHanded a C os f .any (fun v args => (s.pre enc C.prog fn conds apart v args ∧ X v args) ∧ sizedMet enc C.prog fn (OpenSpec.ofChange s) apart v args) (s.post enc C.prog fn apart fresh handsOn again) := by
  refine returnsInHanded_of_calls hown started noInit witness ?_
  intro v tape i _ hsh _ hin hpre _
  obtain ⟨_, _, _, g, hg, _, _, _, _, hval⟩ := hin
  obtain rfl : g = fn := Option.some.inj (hg.symm.trans hfn)
  obtain ⟨⟨⟨ds, gs, before, hw, -⟩, hx⟩, -⟩ := hpre
  refine (contract (v.forCall tape i) v.heap.size i.args ds gs before hval (DataW.Whole.of_heap (by rfl) hw) (hX _ _ _ (by rfl) hx) hsh).mono fun e W' ⟨r, he, hq⟩ => ?_
  subst he
  exact ChangeSpec.post_blind hq
end Go.Proofs.YtmnbjkbkjmgmkaaDoor
