import Derived.Deep.RegionLawGrows
import Derived.Deep.RegionHeld3
import Derived.Sort.CutIn
import Derived.Stop.RegionWithIn
import Derived.Test.YtjobmkdaaionlaaGreatDoorCut32
import Derived.Test.YtjobmkdaaionlaaGreatDoorCut33

set_option linter.unusedVariables false
/-
  linear: Rename.
-/
set_option linter.unusedSimpArgs false
namespace Go.Proofs.YtjobmkdaaionlaaGreatDoor
open Go Go.Proofs Go.RowKit Go.Shelf
attribute [local go_sem] Oper.semAt_some
def IRow (w : World) (ao : Option Addr) (c : Nat) (l : List Int) : Prop :=
  l.length ≤ c ∧ c ≤ 9223372036854775807 ∧ (l = [] ∨ ∃ b off, ao = some ⟨b, off, none⟩ ∧ b < w.heap.size ∧ ∀ k (h : k < l.length), w.cell? ⟨b, off + k, none⟩ = some (.int .i64 (l[k]'h)))
theorem IRow.mono {w w' : World} {ao : Option Addr} {c : Nat} {l : List Int} (h : IRow w ao c l) (hb : Below w.heap.size w w') : IRow w' ao c l := by
  obtain ⟨h1, h2, h3⟩ := h
  refine ⟨h1, h2, ?_⟩
  rcases h3 with h | ⟨b, off, h, hlt, hc⟩
  · exact .inl h
  · exact .inr ⟨b, off, h, Nat.lt_of_lt_of_le hlt hb.size, fun k hk => (hb.cell (p := ⟨b, off + k, none⟩) hlt).trans (hc k hk)⟩
theorem IRow.get {w : World} {ao : Option Addr} {c : Nat} {l : List Int} (h : IRow w ao c l) (k : Nat) (hk : k < l.length) : ∃ b off, ao = some ⟨b, off, none⟩ ∧ b < w.heap.size ∧ w.cell? ⟨b, off + k, none⟩ = some (.int .i64 (l[k]'hk)) := by
  rcases h.2.2 with e | ⟨b, off, e, hlt, hc⟩
  · subst e; exact absurd hk (by simp)
  · exact ⟨b, off, e, hlt, hc k hk⟩
def movL (l : List ByteArray) (ts : List Int) (n : Nat) (pre : List (Fin l.length)) : List ByteArray :=
  pre.foldl (fun s x => s.set (ts.getD x.val 0).toNat (addT (s.getD (ts.getD x.val 0).toNat ⟨#[]⟩) (l.getD x.val ⟨#[]⟩))) (List.replicate n z0)
theorem movL_snoc (l : List ByteArray) (ts : List Int) (n : Nat) (pre : List (Fin l.length)) (x : Fin l.length) :
    movL l ts n (pre ++ [x]) = (movL l ts n pre).set (ts.getD x.val 0).toNat (addT ((movL l ts n pre).getD (ts.getD x.val 0).toNat ⟨#[]⟩) (l.getD x.val ⟨#[]⟩)) := by unfold movL; rw [List.foldl_append]; rfl
theorem movL_aux (l : List ByteArray) (hg : ∀ s ∈ l, Good 100 s) (ts : List Int) (n : Nat) : ∀ (pre : List (Fin l.length)) (acc : List ByteArray) (m : Nat), acc.length = n → (∀ s ∈ acc, Good m s) →
    (pre.foldl (fun s x => s.set (ts.getD x.val 0).toNat (addT (s.getD (ts.getD x.val 0).toNat ⟨#[]⟩) (l.getD x.val ⟨#[]⟩))) acc).length = n ∧ ∀ s ∈ pre.foldl (fun s x => s.set (ts.getD x.val 0).toNat (addT (s.getD (ts.getD x.val 0).toNat ⟨#[]⟩) (l.getD x.val ⟨#[]⟩))) acc, Good (m + 101 * pre.length) s
  | [], acc, m, h1, h2 => ⟨h1, fun s hs => (h2 s hs).mono (by simp)⟩
  | x :: pre, acc, m, h1, h2 => by
    rw [List.foldl_cons]
    have := movL_aux l hg ts n pre (acc.set (ts.getD x.val 0).toNat (addT (acc.getD (ts.getD x.val 0).toNat ⟨#[]⟩) (l.getD x.val ⟨#[]⟩))) (m + 101) (by rw [List.length_set]; exact h1) (fun s hs => by
      rcases List.mem_or_eq_of_mem_set hs with h | rfl
      · exact (h2 s h).mono (by omega)
      · by_cases hb : (ts.getD x.val 0).toNat < acc.length
        · have q1 := h2 _ (List.getElem_mem hb)
          rw [← getD_get _ hb] at q1
          have q2 := hg _ (List.getElem_mem x.isLt)
          rw [← getD_get _ x.isLt] at q2
          exact (q1.add q2).mono (by omega)
        · rw [List.set_eq_of_length_le (by omega)] at hs
          exact (h2 _ hs).mono (by omega))
    refine ⟨this.1, fun s hs => (this.2 s hs).mono (by rw [List.length_cons]; omega)⟩
theorem movL_good (l : List ByteArray) (hg : ∀ s ∈ l, Good 100 s) (ts : List Int) (n : Nat) (pre : List (Fin l.length)) : (movL l ts n pre).length = n ∧ ∀ s ∈ movL l ts n pre, Good (100 + 101 * pre.length) s :=
  movL_aux l hg ts n pre _ 100 (by simp) (fun s hs => by obtain rfl := List.eq_of_mem_replicate hs; exact good0 (by decide))
def Boxed2 (W : World) (B : Nat) (t : TypeId) (u v : Value) : Prop := W.heap[B]? = some (.cells #[u, v] t (0, 0))
theorem Boxed2.bx {W : World} {B : Nat} {t : TypeId} {u v : Value} (h : Boxed2 W B t u v) : Bx2 W B u v := by
  have h' : W.heap[B]? = some (.cells #[u, v] t (0, 0)) := h
  exact ⟨by simp [World.cell?, h'], by simp [World.cell?, h'], by simp [World.frozen?, h'], by simp [World.frozen?, h'], (Array.getElem?_eq_some_iff.1 h').1⟩
theorem boxed2_below {W W' : World} {B : Nat} {t : TypeId} {u v : Value} (h : Boxed2 W B t u v) (hb : Below W.heap.size W W') : Boxed2 W' B t u v := (hb.block B (Array.getElem?_eq_some_iff.1 h).1).trans h
theorem Boxed2.new (W : World) (t : TypeId) (u v : Value) : Boxed2 (W.alloc (.cells #[u, v] t)) W.heap.size t u v := World.alloc_heap_new W _
theorem sblk_own {β : Type} (B : Nat) (T : TypeId) (f : β → List ByteArray) : Own (fun (s : β) W => SBlk T W B (f s)) := fun s X Y row ⟨R, h⟩ hg hrow =>
  ⟨R, (hg.block B (Array.getElem?_eq_some_iff.1 h).1 (fun e => by
    obtain ⟨o, ho, hc⟩ := hrow B e.symm
    rw [h] at ho; cases ho; cases hc)).trans h⟩
theorem boxed2_own {β : Type} (B : Nat) (T : TypeId) (u v : Value) : Own (fun (_ : β) W => Boxed2 W B T u v) := fun s X Y row h hg hrow =>
  (hg.block B (Array.getElem?_eq_some_iff.1 h).1 (fun e => by
    obtain ⟨o, ho, hc⟩ := hrow B e.symm
    have h' : X.heap[B]? = some (.cells #[u, v] T (0, 0)) := h
    rw [h'] at ho; cases ho; cases hc)).trans h
theorem step_append_one {ops : Array Oper} {o : Oper} {a : Act} {W : World} {K : Act → World → Prop} {Q : Exit → Act → World → Prop} {E : Prop}
    (hg : o.guard = none) (s x : Operand) (hop : o.op = Op.call { callee := Callee.builtin Builtin.append, args := #[s, x], argTypes := #[25, 25] })
    (g n : Nat) (l : List ByteArray) (k : ByteArray) (hn : l.length = n) (hs : a.eval s = .slice (some ⟨g, 0, none⟩) n n) (hX : XBlk 22 W g l) (hl : n ≤ 1000)
    (ad : Nat) (hx : a.eval x = .slice (some ⟨ad, 0, none⟩) 1 1) (hc : W.cell? ⟨ad, 0, none⟩ = some (.string k))
    (hK : ∀ (g9 cap : Nat) (w9 : World), SBlk 22 w9 g9 (l ++ [k]) → n + 1 ≤ cap → cap ≤ 9223372036854775807 → W.heap.size ≤ g9 → Below W.heap.size W w9 → K (a.put o.dst (.slice (some ⟨g9, 0, none⟩) (n + 1) cap)) w9) :
    if Region.wanted o (yielded ops a.tmps) = true then Oper.wp Tryz.prog o a W K Q else E := by
  obtain ⟨i0, hi, hz0, hz1, hz2⟩ := info_parts infoRat
  subst hn
  refine step_append_grows hg s x 25 hop 22 i0 (.string ⟨#[]⟩) 1 16 Tryz.underlying25 hi hz0 hz1 hz2 rfl (by decide) (some ⟨g, 0, none⟩) l.length l.length (strCells l) hs (fun h => by cases h) (by rw [strCells_length, Nat.mul_one]) ?_ ⟨ad, 0, none⟩ 1 1 [.string k] hx rfl ?_ (by intro u hu; simp at hu; subst hu; rfl) (by omega) (by unfold maxLen; omega) (by omega) ?_
  · intro b hb j u hu
    cases hb
    have hj : j < l.length := by have := (List.getElem?_eq_some_iff.1 hu).1; rwa [strCells_length] at this
    rw [addr_zero, hX.cell j hj, ← hu]
    unfold strCells
    rw [List.getElem?_map, List.getElem?_eq_getElem hj]; rfl
  · intro j u hu
    match j, hu with
    | 0, hu => simp at hu; subst hu; rw [addr_zero]; exact hc
  · intro v' w' hown hgrow
    rw [show strCells l ++ [Value.string k] = strCells (l ++ [k]) from (strCells_append l [k]).symm] at hown
    obtain ⟨g9, cap, rfl⟩ := ownsRow_succ hown
    obtain ⟨q1, -, q3, q4, q5⟩ := sblk_of_owns hown
    exact hK g9 cap w' q1 q3 q4 q5 (below_of_grown hgrow)
theorem xblk_over {T : TypeId} {W : World} {b : Nat} {l : List ByteArray} (h : XBlk T W b l) (o : Obj) : XBlk T (W.alloc o) b l := h.keep ((Below.refl _ _).alloc (Nat.le_refl _) _)
theorem nb {a W : World} (h : Below a.heap.size a W) (o : Obj) : Below a.heap.size a (W.alloc o) := h.alloc h.size o
theorem cell_over {W : World} {p : Addr} {v : Value} (h : W.cell? p = some v) (o : Obj) : (W.alloc o).cell? p = some v := by
  have := World.block_lt_of_cell? W p h
  exact (World.cell?_alloc_lt _ _ _ this).trans h
theorem allocN (W : World) (T : TypeId) (v : Value) : (W.alloc (.cells #[v] T)).cell? ⟨W.heap.size, 0, none⟩ = some v := (Boxed.new W T v).cell
theorem allocN1 (W : World) (o : Obj) (T : TypeId) (v : Value) : ((W.alloc o).alloc (.cells #[v] T)).cell? ⟨W.heap.size + 1, 0, none⟩ = some v := by have := allocN (W.alloc o) T v; rwa [World.size_alloc] at this
theorem allocB {W W' : World} (hb : Below W.heap.size W W') {p : Addr} {v : Value} (h : W.cell? p = some v) : W'.cell? p = some v := (hb.cell (p := p) (World.block_lt_of_cell? W p h)).trans h
theorem boxB {W W' : World} {B : Nat} {t : TypeId} {v : Value} (hb : Below W.heap.size W W') (h : Boxed W B t v) : Boxed W' B t v := boxed_below h hb
theorem sblk_set_box {W : World} {g b : Nat} {l : List ByteArray} {v u : Value} (h : SBlk 22 W g l) (hb : Boxed W b 25 v) : SBlk 22 (W.setCell ⟨b, 0, none⟩ u) g l := by
  obtain ⟨R, h⟩ := h
  refine ⟨R, (Below.heap_setCell W ⟨b, 0, none⟩ u g (fun e => ?_)).trans h⟩
  have e' : g = b := e
  subst e'
  have hb' : W.heap[g]? = some (.cells #[v] 25 (0, 0)) := hb
  rw [h] at hb'
  injection hb' with hb'
  injection hb' with _ h2 _
  exact absurd h2 (by decide)
theorem boxed_ne_blk {W : World} {g b : Nat} {l : List ByteArray} {v : Value} (hb : Boxed W b 25 v) (h : SBlk 22 W g l) : b ≠ g := fun e => by
  subst e
  obtain ⟨R, h⟩ := h
  have hb' : W.heap[b]? = some (.cells #[v] 25 (0, 0)) := hb
  rw [h] at hb'
  injection hb' with hb'
  injection hb' with _ h2 _
  exact absurd h2 (by decide)
theorem RowB.put {Bd : Nat} {W : World} {D : Nat} {x : Option (List Deferred)} (hK : W.heap[D]? = some (.deferred x)) (o : Obj) {ao : Option Addr} {c : Nat} {l : List ByteArray} (h : RowB Bd W ao c l) : RowB Bd (W.putObj D o) ao c l := by
  obtain ⟨⟨h1, h2, h3⟩, h4⟩ := h
  refine ⟨⟨h1, h2, ?_⟩, h4⟩
  rcases h3 with h3 | ⟨b, off, he, hlt, hc⟩
  · exact .inl h3
  · refine .inr ⟨b, off, he, by simpa using hlt, fun k hk => ?_⟩
    have h5 := hc k hk
    have hne : b ≠ D := fun e => by subst e; simp [World.cell?, hK] at h5
    rw [World.cell?_of_block (w := W) (a := ⟨b, off + k, none⟩) (World.putObj_heap_other hne)]
    exact h5
theorem boxed_at (W : World) {b : Nat} {T : TypeId} {v : Value} (h : W.heap.size = b) : Boxed (W.alloc (.cells #[v] T)) b T v := by subst h; exact Boxed.new W T v
def RnI (l : List ByteArray) (k : ByteArray) (ts : List Int) (tp : Option Addr) (tc n : Nat) (w : World) (b11 gl cl : Nat) (pre : List (Fin l.length)) (W : World) : Prop :=
  Boxed W b11 25 (.slice (some ⟨gl, 0, none⟩) (n + 1) cl) ∧ SBlk 22 W gl (movL l ts n pre ++ [k]) ∧ Boxed W (w.heap.size + 1) 64 (.slice tp l.length tc) ∧ Boxed2 W (w.heap.size + 1 + 1) 27 (.slice none 0 0) (.string ⟨#[]⟩) ∧ Below w.heap.size w W
theorem rnI_own (l : List ByteArray) (k : ByteArray) (ts : List Int) (tp : Option Addr) (tc n : Nat) (w : World) (b11 gl cl B : Nat) (hB : w.heap.size ≤ B) : OwnFrom B (RnI l k ts tp tc n w b11 gl cl) :=
  OwnFrom.and (Own.from (boxed_own b11 25 (fun _ => .slice (some ⟨gl, 0, none⟩) (n + 1) cl)) _) (OwnFrom.and (Own.from (sblk_own gl 22 (fun pre => movL l ts n pre ++ [k])) _) (OwnFrom.and (Own.from (boxed_own (w.heap.size + 1) 64 (fun _ => .slice tp l.length tc)) _) (OwnFrom.and (Own.from (boxed2_own (w.heap.size + 1 + 1) 27 _ _) _) (ownFrom_below (Nat.le_refl _) hB))))
structure RnB (w W : World) (ao : Option Addr) (n c : Nat) (k : ByteArray) (tp : Option Addr) (tc : Nat) : Prop where
  x : Bx2 W w.heap.size (.slice ao n c) (.string k)
  t : Boxed W (w.heap.size + 1) 64 (.slice tp n tc)
  r : Boxed2 W (w.heap.size + 1 + 1) 27 (.slice none 0 0) (.string ⟨#[]⟩)
  b : Below w.heap.size w W
theorem RnB.mono {w W W' : World} {ao : Option Addr} {n c : Nat} {k : ByteArray} {tp : Option Addr} {tc : Nat} (h : RnB w W ao n c k tp tc) (g : Below W.heap.size W W') : RnB w W' ao n c k tp tc :=
  ⟨h.x.mono g, boxed_below h.t g, boxed2_below h.r g, Below.chain h.b g⟩
theorem RnB.new (w : World) (ao : Option Addr) (n c : Nat) (k : ByteArray) (tp : Option Addr) (tc : Nat) :
    RnB w (((w.alloc (Obj.cells #[.slice ao n c, .string k] 27)).alloc (Obj.cells #[.slice tp n tc] 64)).alloc (Obj.cells #[.slice none 0 0, .string ⟨#[]⟩] 27)) ao n c k tp tc := by
  have h1 := Bx2.new w (.slice ao n c) (.string k) 27
  have h2 := Boxed.new (w.alloc (Obj.cells #[.slice ao n c, .string k] 27)) 64 (.slice tp n tc)
  have h3 := Boxed2.new ((w.alloc (Obj.cells #[.slice ao n c, .string k] 27)).alloc (Obj.cells #[.slice tp n tc] 64)) 27 (.slice none 0 0) (.string ⟨#[]⟩)
  simp only [World.size_alloc] at h2 h3
  exact ⟨(h1.over _).over _, h2.alloc _, h3, (((Below.refl _ _).alloc (Nat.le_refl _) _).alloc (by simp) _).alloc (by simp; omega) _⟩
set_option maxRecDepth 100000 in
set_option maxHeartbeats 4000000 in
theorem linRename_good (l : List ByteArray) (k : ByteArray) (ao : Option Addr) (c : Nat) (ts : List Int) (tp : Option Addr) (tc n : Nat) (w : World) (hr : SRow w ao c l) (hz : ∀ s ∈ l ++ [k], s.size ≤ 1200000) (hn : l.length ≤ 1200000) (ht : IRow w tp tc ts)
    (h0 : linE l k = 0) (hn32 : n ≤ 32) (hlen : ts.length = l.length) (hts : ∀ t ∈ ts, 0 ≤ t ∧ t < (n : Int)) (htab : Lib.TabIs Tryz.prog w "internal/strconv.uint64pow10" .u64 Lib.pow10Tab) :
    Calls Tryz.prog 36 #[.agg #[.slice ao l.length c, .string k], .slice tp l.length tc, .int .i64 (n : Int)] w (LinRet w.heap.size (exprO (movL l ts n (nz l)) k) w) := by
  have hT := Lib.tabBelow_of_tabIs htab
  have CH := fun (W : World) (hW : Below w.heap.size w W) => linCheck l k ao c W (hr.mono hW) hz hn (hT.on hW).here
  obtain ⟨hl, hg⟩ := linE_zero h0
  rw [h0] at CH
  have CS := fun (W : World) => isSize_any (n : Int) W
  rw [show sizeB (n : Int) = true by unfold sizeB; simp; omega] at CS
  have CZ := fun (W : World) => zeros_any n W (by omega)
  obtain ⟨rb, hrb, hrbl⟩ := row_block hr
  have KH := Lib.hid CH; have KS := Lib.hid CS; have KZ := Lib.hid CZ; have HR := Lib.hid hr; have HRB := Lib.hid hrb; have HRL := Lib.hid hrbl; have HLEN := Lib.hid hlen; have HT := Lib.hid hT; have HG := Lib.hid hg; have HTS := Lib.hid hts; have HTO := Lib.hid ht
  clear CH CS CZ hr hz hT htab h0 hrb hrbl hlen hg hts ht
  refine (callsIn_wide (n := 3)).1 ?_
  refine callsIn_of_wp_marks Tryz.func36 rfl trivial ?_ rfl
  simp only [Tryz.ntmps36, List.size_toArray, List.length_cons, List.length_nil, Nat.reduceAdd, Nat.reduceSub, Array.replicate_succ, Array.replicate_zero, List.push_toArray, List.append_toArray, List.nil_append, List.cons_append]
  have V0 := RnB.new w ao l.length c k tp tc
  gi_wp2_with fail
  generalize ((w.alloc (Obj.cells #[.slice ao l.length c, .string k] 27)).alloc (Obj.cells #[.slice tp l.length tc] 64)).alloc (Obj.cells #[.slice none 0 0, .string ⟨#[]⟩] 27) = W0 at *
  refine ⟨trivial, (callsIn_wide.2 (KH.out _ V0.b)).mono ?_⟩
  rintro e w1 ⟨rfl, hb1⟩
  have V1 := V0.mono hb1
  have x0 := V1.x.c0; have x1 := V1.x.c1; have xl := V1.x.lt; have p0 := V1.t.cell; have pl := V1.t.lt
  clear hb1 V0
  gi_wp2_with fail
  refine ⟨trivial, (callsIn_wide.2 (KS.out _)).mono ?_⟩
  rintro e w1 ⟨rfl, h⟩
  subst h
  have HX := Lib.hid V1; clear V1
  gi_wp2_with fail
  gi_loopw [35] (fun iv wr => ∃ j : Nat, j ≤ l.length ∧ iv = .int .i64 (j : Int) ∧ wr = w1) (fun iv _ => l.length - (intOf iv).toNat)
  case atStart => exact ⟨0, Nat.zero_le _, rfl, rfl⟩
  case round =>
    obtain ⟨j, hj, rfl, hwr⟩ := hrel
    obtain hwr2 : w1 = wr := hwr.symm
    clear hwr
    subst hwr2
    by_cases hlt : j < l.length
    · have hjt : j < ts.length := by rw [HLEN.out]; exact hlt
      obtain ⟨bp, op, rfl, hbp, hcp⟩ := (HTO.out.mono HX.out.b).get j hjt
      obtain ⟨h1, h2⟩ := HTS.out _ (List.getElem_mem hjt)
      generalize ts[j]'hjt = t at *
      have hd1 : decide (t < 0) = false := by simp; omega
      have hd2 : decide ((n : Int) ≤ t) = false := by simp; omega
      gi_wp2
      go_roundw
      case rel => exact ⟨j + 1, by omega, by go_num, by first | rfl | trivial⟩
      case measure => simp [intOf]; omega
    · have hjn : j = l.length := by omega
      subst hjn
      gi_wp2_with fail
      have V1 := HX.out
      have x0 := V1.x.c0; have x1 := V1.x.c1; have xl := V1.x.lt
      have KC : ∀ W : World, Below w1.heap.size w1 W → W.cell? ⟨w.heap.size, 1, none⟩ = some (.string k) := fun W hW => (V1.x.mono hW).c1
      have KKC := Lib.hid KC; clear KC x0 x1 xl
      gi_cut [11] from 80 (fun s11 wc => ∃ b11 g9 cap : Nat, s11 = .pointer (some ⟨b11, 0, none⟩) ∧ w1.heap.size ≤ b11 ∧ w1.heap.size ≤ g9 ∧ n + 1 ≤ cap ∧ cap ≤ 9223372036854775807 ∧ Boxed wc b11 25 (.slice (some ⟨g9, 0, none⟩) (n + 1) cap) ∧ SBlk 22 wc g9 (List.replicate n z0 ++ [k]) ∧ Below w1.heap.size w1 wc)
      case first =>
        rename_i J K' hJ hK'
        refine wpIn_wide.2 ?_
        have NW : Below w1.heap.size w1 w1.drew := (Below.refl _ _).drew
        have R0 := Below.refl w1.heap.size w1
        have hxlt := V1.x.lt
        go_region_held3 (fun w' => w'.cell? ⟨w.heap.size, 1, none⟩ = some (.string k))
          (first | exact KKC.out _ NW | exact KKC.out _ (nb NW _) | exact KKC.out _ (nb (nb NW _) _) | exact KKC.out _ (nb R0 _).drew | exact KKC.out _ (nb (nb R0 _) _).drew | exact KKC.out _ (nb (nb R0 _).drew _) | (refine (World.cell?_setCell_far _ _ _ _ ?hne).trans (KKC.out _ NW); (case hne => (simp; omega))) | (refine (World.cell?_setCell_far _ _ _ _ ?hne).trans (KKC.out _ (nb NW _)); (case hne => (simp; omega))) | fail)
          (first
          | (go_at_call 47; (with_reducible refine (KZ.out _).mono ?_); rintro e wz ⟨g, rfl, hh, hg, hb⟩; (first | (have NW : Below w1.heap.size w1 wz := Below.chain NW hb; have hzz := NW.size) | (have NW : Below w1.heap.size w1 wz := Below.chain (nb NW _) hb; have hzz := NW.size) | (have NW : Below w1.heap.size w1 wz := Below.chain (nb (nb NW _) _) hb; have hzz := NW.size) | (have NW : Below w1.heap.size w1 wz := Below.chain (nb R0 _).drew hb; have hzz := NW.size) | (have NW : Below w1.heap.size w1 wz := Below.chain (nb (nb R0 _) _).drew hb; have hzz := NW.size) | (have NW : Below w1.heap.size w1 wz := Below.chain (nb (nb R0 _).drew _) hb; have hzz := NW.size) ))
          | (refine step_append_one rfl (.tmp 49) (.tmp 52) rfl g n (List.replicate n z0) k (List.length_replicate ..) (by simp [Act.eval, Act.put]) (xblk_over hh _) (by omega) wz.heap.size (by simp [Act.eval, Act.put]) (allocN wz _ _) ?_; intro g9 cap w9 s9 c9 c9' hg9 hb9; have hg9' : w1.heap.size ≤ g9 := Nat.le_trans ((nb NW _) : Below w1.heap.size w1 _).size hg9; have NW : Below w1.heap.size w1 w9 := Below.chain (nb NW _) hb9; have hz9 := NW.size; (try (have bx : Boxed w9 w1.heap.size 25 (.slice none 0 0) := boxB hb9 ((boxB hb (boxed_at w1 rfl)).alloc _); have bx0 := bx.cell; have bx1 := bx.frozen; have bx2 := bx.lt; have BX := Lib.hid bx; clear bx)))
          | (refine step_append_one rfl (.tmp 49) (.tmp 52) rfl g n (List.replicate n z0) k (List.length_replicate ..) (by simp [Act.eval, Act.put]) (hh) (by omega) w1.heap.size (by simp [Act.eval, Act.put]) (allocB hb (allocN w1 _ _)) ?_; intro g9 cap w9 s9 c9 c9' hg9 hb9; have hg9' : w1.heap.size ≤ g9 := Nat.le_trans (NW : Below w1.heap.size w1 _).size hg9; have NW : Below w1.heap.size w1 w9 := Below.chain NW hb9; have hz9 := NW.size)
          | (refine step_append_one rfl (.tmp 49) (.tmp 52) rfl g n (List.replicate n z0) k (List.length_replicate ..) (by simp [Act.eval, Act.put]) (xblk_over (xblk_over hh _) _) (by omega) wz.heap.size (by simp [Act.eval, Act.put]) (cell_over (allocN wz _ _) _) ?_; intro g9 cap w9 s9 c9 c9' hg9 hb9; have hg9' : w1.heap.size ≤ g9 := Nat.le_trans ((nb (nb NW _) _) : Below w1.heap.size w1 _).size hg9; have NW : Below w1.heap.size w1 w9 := Below.chain (nb (nb NW _) _) hb9; have hz9 := NW.size; (try (have bx : Boxed w9 (wz.heap.size + 1) 25 (.slice none 0 0) := boxB hb9 (boxed_at (wz.alloc _) (World.size_alloc _ _)); have bx0 := bx.cell; have bx1 := bx.frozen; have bx2 := bx.lt; have BX := Lib.hid bx; clear bx)))
          | (refine step_append_one rfl (.tmp 49) (.tmp 52) rfl g n (List.replicate n z0) k (List.length_replicate ..) (by simp [Act.eval, Act.put]) (xblk_over (xblk_over hh _) _) (by omega) (wz.heap.size + 1) (by simp [Act.eval, Act.put]) (allocN1 wz _ _ _) ?_; intro g9 cap w9 s9 c9 c9' hg9 hb9; have hg9' : w1.heap.size ≤ g9 := Nat.le_trans ((nb (nb NW _) _) : Below w1.heap.size w1 _).size hg9; have NW : Below w1.heap.size w1 w9 := Below.chain (nb (nb NW _) _) hb9; have hz9 := NW.size; (try (have bx : Boxed w9 wz.heap.size 25 (.slice none 0 0) := boxB hb9 ((boxed_at wz rfl).alloc _); have bx0 := bx.cell; have bx1 := bx.frozen; have bx2 := bx.lt; have BX := Lib.hid bx; clear bx)))
          | (refine step_append_one rfl (.tmp 49) (.tmp 52) rfl g n (List.replicate n z0) k (List.length_replicate ..) (by simp [Act.eval, Act.put]) (xblk_over hh _) (by omega) w1.heap.size (by simp [Act.eval, Act.put]) (cell_over (allocB hb (allocN w1 _ _)) _) ?_; intro g9 cap w9 s9 c9 c9' hg9 hb9; have hg9' : w1.heap.size ≤ g9 := Nat.le_trans ((nb NW _) : Below w1.heap.size w1 _).size hg9; have NW : Below w1.heap.size w1 w9 := Below.chain (nb NW _) hb9; have hz9 := NW.size; (try (have bx : Boxed w9 wz.heap.size 25 (.slice none 0 0) := boxB hb9 (boxed_at wz rfl); have bx0 := bx.cell; have bx1 := bx.frozen; have bx2 := bx.lt; have BX := Lib.hid bx; clear bx)))
          | (refine step_append_one rfl (.tmp 49) (.tmp 52) rfl g n (List.replicate n z0) k (List.length_replicate ..) (by simp [Act.eval, Act.put]) (hh) (by omega) w1.heap.size (by simp [Act.eval, Act.put]) (allocB hb (cell_over (allocN w1 _ _) _)) ?_; intro g9 cap w9 s9 c9 c9' hg9 hb9; have hg9' : w1.heap.size ≤ g9 := Nat.le_trans (NW : Below w1.heap.size w1 _).size hg9; have NW : Below w1.heap.size w1 w9 := Below.chain NW hb9; have hz9 := NW.size; (try (have bx : Boxed w9 (w1.heap.size + 1) 25 (.slice none 0 0) := boxB hb9 (boxB hb (boxed_at (w1.alloc _) (World.size_alloc _ _))); have bx0 := bx.cell; have bx1 := bx.frozen; have bx2 := bx.lt; have BX := Lib.hid bx; clear bx)))
          | (refine step_append_one rfl (.tmp 49) (.tmp 52) rfl g n (List.replicate n z0) k (List.length_replicate ..) (by simp [Act.eval, Act.put]) (hh) (by omega) (w1.heap.size + 1) (by simp [Act.eval, Act.put]) (allocB hb (allocN1 w1 _ _ _)) ?_; intro g9 cap w9 s9 c9 c9' hg9 hb9; have hg9' : w1.heap.size ≤ g9 := Nat.le_trans (NW : Below w1.heap.size w1 _).size hg9; have NW : Below w1.heap.size w1 w9 := Below.chain NW hb9; have hz9 := NW.size; (try (have bx : Boxed w9 w1.heap.size 25 (.slice none 0 0) := boxB hb9 (boxB hb ((boxed_at w1 rfl).alloc _)); have bx0 := bx.cell; have bx1 := bx.frozen; have bx2 := bx.lt; have BX := Lib.hid bx; clear bx)))
          | fail)
        all_goals
          refine hK' _ _ ?_
          refine Met.intro ?_
          refine hJ _ _ ?_
          (repeat apply Exists.intro)
          refine ⟨?_, rfl⟩
        all_goals first
          | exact ⟨_, g9, cap, rfl, hz9, hg9', c9, c9', boxed_at w9 rfl, s9.keep (nb (Below.refl _ _) _), nb NW _⟩
          | (refine ⟨_, g9, cap, rfl, ?_, hg9', c9, c9', BX.out.set _, sblk_set_box s9 BX.out, NW.setCell (p := ⟨_, 0, none⟩) ?_ _⟩ <;> (first | (simp; omega) | simp | omega))
      case rest =>
        obtain ⟨b11, g9, cap, rfl, hb11, hg9, hcap, hcap2, bx11, sb9, hBc⟩ := hcut
        have V2 := V1.mono hBc
        have x0 := V2.x.c0; have x1 := V2.x.c1; have xl := V2.x.lt
        gi_wp2_with fail
        refine ⟨trivial, (callsIn_wide.2 (terms_any ao l.length c k wc)).mono ?_⟩
        rintro e w' ⟨rfl, rfl⟩
        gi_wp2_with fail
        have A4 : Below wc.heap.size wc (wc.alloc (Obj.cells #[.slice ao l.length c, .string k] 27)) := (Below.refl _ _).alloc (Nat.le_refl _) _
        have V4 := V2.mono A4
        have bx4 := boxed_below bx11 A4; have sb4 := sb9.keep A4
        have hqc : (wc.alloc (Obj.cells #[.slice ao l.length c, .string k] 27)).cell? ⟨wc.heap.size, 0, none⟩ = some (.slice ao l.length c) := by go_cell
        have hqs : wc.heap.size < (wc.alloc (Obj.cells #[.slice ao l.length c, .string k] 27)).heap.size := by simp
        generalize wc.alloc (Obj.cells #[.slice ao l.length c, .string k] 27) = W4 at *
        have hs2 : w.heap.size + 1 + 1 < w1.heap.size := V1.r.bx.lt
        refine wpIn_rangeFunc_ownG rfl (by omega) (gf := 95) (lb := #[.pointer (some ⟨wc.heap.size, 0, none⟩)]) rfl trivial (enters_of Tryz.func95 (by kernel_rfl) rfl)
          (terms_stops 2 (by omega) wc.heap.size rb l ao c W4 (HR.out.mono V4.b) HRB.out hn hqs hqc) (fun {A B C} h k => k.trans h) ?hKb (Below.refl _ _) (fun _ => rfl)
          (RnI l k ts tp tc n w b11 g9 cap) (fun _ _ _ => False) (rnI_own l k ts tp tc n w b11 g9 cap _ (by have := V4.b.size; omega)) (fun _ _ _ _ _ hs _ _ => hs)
          ⟨bx4, sb4, V4.t, V4.r, V4.b⟩ ?a1 ?assign ?body ?done ?stop
        case assign =>
          intro lp x W K hK
          unfold tEnc
          gi_wp2
          exact hK
        case hKb =>
          intro W lp o o' hl _ _ _
          have := HRL.out
          have := V4.b.size
          exact World.putObj_heap_other (by omega)
        case stop =>
          rintro D c pre W _ _ h _
          exact h.elim
        case body =>
          rintro lp pre x W ⟨hv, hsb, htb, hrb2, hB⟩ hlt
          have hxp : x.val < ts.length := by rw [HLEN.out]; exact x.isLt
          obtain ⟨bp, op, rfl, hbp, hcp⟩ := (HTO.out.mono hB).get x.val hxp
          rw [show ts[x.val]'hxp = ts.getD x.val 0 by simp [hxp]] at hcp
          obtain ⟨ht0, ht1⟩ := HTS.out (ts.getD x.val 0) (by rw [show ts.getD x.val 0 = ts[x.val]'hxp by simp [hxp]]; exact List.getElem_mem hxp)
          have hml := movL_good l (fun s hs => HG.out s (List.mem_append_left _ hs)) ts n pre
          have hsn := movL_snoc l ts n pre x
          obtain ⟨j, hj⟩ := Int.eq_ofNat_of_zero_le ht0
          rw [hj] at hcp ht0 ht1 hsn
          rw [Int.toNat_natCast] at hsn
          have hjn : j < n := by omega
          have hjl : j < (movL l ts n pre).length := by rw [hml.1]; exact hjn
          have hce := hsb.cell j (by simp; omega)
          rw [List.getElem_append_left hjl, ← getD_get _ hjl] at hce
          have hse := hsb.set j (by simp; omega) (addT ((movL l ts n pre).getD j ⟨#[]⟩) (l.getD x.val ⟨#[]⟩))
          rw [List.set_append_left _ _ hjl, ← hsn] at hse
          have hge := hml.2 _ (List.getElem_mem hjl)
          rw [← getD_get _ hjl] at hge
          have hgx := HG.out _ (List.mem_append_left [k] (List.getElem_mem x.isLt))
          rw [← getD_get l x.isLt] at hgx
          have hnz := nzTo_len l l.length
          have CAx : ∀ W', Below w.heap.size w W' → Calls Tryz.prog 70 #[.string ((movL l ts n pre).getD j ⟨#[]⟩), .string (l[x.val]'x.isLt)] W' (Bret (.tuple #[.string (addT ((movL l ts n pre).getD j ⟨#[]⟩) (l.getD x.val ⟨#[]⟩)), .int .i64 0]) W') := fun W' hW' => by
            have := raddG hge hgx (by have : (nz l).length ≤ l.length := hnz; omega) W' (HT.out.on hW').here
            rw [← getD_get l x.isLt]; exact this
          have hfz := hsb.frozen j
          have hpl : (movL l ts n pre ++ [k]).length = n + 1 := by simp [hml.1]
          have hset : ∀ W', SBlk 22 W' g9 (movL l ts n pre ++ [k]) → SBlk 22 (W'.setCell ⟨g9, j, none⟩ (.string (addT ((movL l ts n pre).getD j ⟨#[]⟩) (l.getD x.val ⟨#[]⟩)))) g9 (movL l ts n (pre ++ [x]) ++ [k]) := fun W' h => by
            have := h.set j (by rw [hpl]; omega) (addT ((movL l ts n pre).getD j ⟨#[]⟩) (l.getD x.val ⟨#[]⟩))
            rwa [List.set_append_left _ _ hjl, ← hsn] at this
          have hcell : ∀ W', SBlk 22 W' g9 (movL l ts n pre ++ [k]) → W'.cell? ⟨g9, j, none⟩ = some (.string ((movL l ts n pre).getD j ⟨#[]⟩)) := fun W' h => by
            have := h.cell j (by rw [hpl]; omega)
            rwa [List.getElem_append_left hjl, ← getD_get _ hjl] at this
          have hx0 : (0 : Int) ≤ ((x.val : Nat) : Int) := by omega
          have hx1 : ((x.val : Nat) : Int) < ((l.length : Nat) : Int) := by have := x.isLt; omega
          have hj1 : (j : Int) < (n : Int) + 1 := by omega
          have hj0 : (0 : Int) ≤ (j : Int) := by omega
          have HSE := Lib.hid hset; have HCE := Lib.hid hcell; have KAx := Lib.hid CAx; have HSB := Lib.hid hsb
          have HTC : ∀ W', Below W.heap.size W W' → W'.cell? ⟨bp, op + x.val, none⟩ = some (.int .i64 (j : Nat)) := fun W' h => (h.cell (p := ⟨bp, op + x.val, none⟩) hbp).trans hcp
          have KTC := Lib.hid HTC
          clear hset hcell CAx hse hge hgx hml hsn hpl hj hnz hsb hjl HTC
          generalize addT ((movL l ts n pre).getD j ⟨#[]⟩) (l.getD x.val ⟨#[]⟩) = nv at *
          generalize (movL l ts n pre).getD j ⟨#[]⟩ = ov at *
          have v0 := hv.cell; have v2 := hv.lt; have t0 := htb.cell; have t2 := htb.lt
          gi_wp2_with fail
          have hS : ∀ W', Below W.heap.size W W' → ((W'.cell? ⟨b11, 0, none⟩ = some (.slice (some ⟨g9, 0, none⟩) (n + 1) cap) ∧ W'.cell? ⟨w.heap.size + 1, 0, none⟩ = some (.slice (some ⟨bp, op, none⟩) l.length tc)) ∧ (W'.cell? ⟨bp, op + x.val, none⟩ = some (.int .i64 (j : Nat)) ∧ W'.cell? ⟨g9, j, none⟩ = some (.string ov))) := fun W' hb3 =>
            ⟨⟨(boxed_below hv hb3).cell, (boxed_below htb hb3).cell⟩, KTC.out _ hb3, HCE.out _ (HSB.out.keep hb3)⟩
          have HSS := Lib.hid hS; clear hS v0 v2 t0 t2
          refine wpIn_region_hot (fun j => j == 18) (fun w' => ((w'.cell? ⟨b11, 0, none⟩ = some (.slice (some ⟨g9, 0, none⟩) (n + 1) cap) ∧ w'.cell? ⟨w.heap.size + 1, 0, none⟩ = some (.slice (some ⟨bp, op, none⟩) l.length tc)) ∧ (w'.cell? ⟨bp, op + x.val, none⟩ = some (.int .i64 (j : Nat)) ∧ w'.cell? ⟨g9, j, none⟩ = some (.string ov)))) (by kernel_rfl) (by kernel_rfl) (by rintro ⟨_, _, h⟩; exact h) (HSS.out _ (Below.refl _ _).drew) (fun hHeld => ?_)
          refine hot_take (i := 0) (oi := { dst := some 59, op := Op.load 25 (Operand.tmp 11), type := 25, pos := "linear.go:130", after := #[], guard := none }) (v := ?v0) rfl (by kernel_rfl) (by kernel_rfl) (by kernel_rfl) rfl (by kernel_rfl) (by kernel_rfl) (fun _ _ _ h => h) (Or.inl ⟨by rfl, ?h0⟩) (by assumption) ?r0
          case h0 => (intro w hSw; (try dsimp only at hSw); go_simp; try with_reducible rfl)
          (try simp only [Act.put, List.setIfInBounds_toArray, List.set_cons_zero, List.set_cons_succ])
          refine hot_take (i := 1) (oi := { dst := some 60, op := Op.load 64 (Operand.tmp 4), type := 64, pos := "linear.go:130", after := #[], guard := none }) (v := ?v1) rfl (by kernel_rfl) (by kernel_rfl) (by kernel_rfl) rfl (by kernel_rfl) (by kernel_rfl) (fun _ _ _ h => h) (Or.inl ⟨by rfl, ?h1⟩) (by assumption) ?r1
          case h1 => (intro w hSw; (try dsimp only at hSw); go_simp; try with_reducible rfl)
          (try simp only [Act.put, List.setIfInBounds_toArray, List.set_cons_zero, List.set_cons_succ])
          refine hot_take (i := 2) (oi := { dst := some 61, op := Op.move (Operand.tmp 12), type := 3, pos := "linear.go:130", after := #[], guard := none }) (v := ?v2) rfl (by kernel_rfl) (by kernel_rfl) (by kernel_rfl) rfl (by kernel_rfl) (by kernel_rfl) (fun _ _ _ h => h) (Or.inl ⟨by rfl, ?h2⟩) (by assumption) ?r2
          case h2 => (intro w hSw; (try dsimp only at hSw); go_simp; try with_reducible rfl)
          (try simp only [Act.put, List.setIfInBounds_toArray, List.set_cons_zero, List.set_cons_succ])
          refine hot_take (i := 3) (oi := { dst := some 62, op := Op.indexAddr 64 (Operand.tmp 60) (Operand.tmp 61), type := 0, pos := "linear.go:130", after := #[{ on := 1, ground := Ground.data }, { on := 2, ground := Ground.data }], guard := none }) (v := ?v3) rfl (by kernel_rfl) (by kernel_rfl) (by kernel_rfl) rfl (by kernel_rfl) (by kernel_rfl) (fun _ _ _ h => h) (Or.inl ⟨by rfl, ?h3⟩) (by assumption) ?r3
          case h3 => (intro w hSw; (try dsimp only at hSw); go_simp; try with_reducible rfl)
          (try simp only [Act.put, List.setIfInBounds_toArray, List.set_cons_zero, List.set_cons_succ])
          refine hot_take (i := 4) (oi := { dst := some 63, op := Op.load 3 (Operand.tmp 62), type := 3, pos := "linear.go:130", after := #[{ on := 3, ground := Ground.data }], guard := none }) (v := ?v4) rfl (by kernel_rfl) (by kernel_rfl) (by kernel_rfl) rfl (by kernel_rfl) (by kernel_rfl) (fun _ _ _ h => h) (Or.inl ⟨by rfl, ?h4⟩) (by assumption) ?r4
          case h4 => (intro w hSw; (try dsimp only at hSw); go_simp; try with_reducible rfl)
          (try simp only [Act.put, List.setIfInBounds_toArray, List.set_cons_zero, List.set_cons_succ])
          refine hot_take (i := 5) (oi := { dst := some 64, op := Op.load 25 (Operand.tmp 11), type := 25, pos := "linear.go:130", after := #[], guard := none }) (v := ?v5) rfl (by kernel_rfl) (by kernel_rfl) (by kernel_rfl) rfl (by kernel_rfl) (by kernel_rfl) (fun _ _ _ h => h) (Or.inl ⟨by rfl, ?h5⟩) (by assumption) ?r5
          case h5 => (intro w hSw; (try dsimp only at hSw); go_simp; try with_reducible rfl)
          (try simp only [Act.put, List.setIfInBounds_toArray, List.set_cons_zero, List.set_cons_succ])
          refine hot_take (i := 6) (oi := { dst := some 65, op := Op.load 64 (Operand.tmp 4), type := 64, pos := "linear.go:130", after := #[], guard := none }) (v := ?v6) rfl (by kernel_rfl) (by kernel_rfl) (by kernel_rfl) rfl (by kernel_rfl) (by kernel_rfl) (fun _ _ _ h => h) (Or.inl ⟨by rfl, ?h6⟩) (by assumption) ?r6
          case h6 => (intro w hSw; (try dsimp only at hSw); go_simp; try with_reducible rfl)
          (try simp only [Act.put, List.setIfInBounds_toArray, List.set_cons_zero, List.set_cons_succ])
          refine hot_take (i := 7) (oi := { dst := some 66, op := Op.move (Operand.tmp 12), type := 3, pos := "linear.go:130", after := #[], guard := none }) (v := ?v7) rfl (by kernel_rfl) (by kernel_rfl) (by kernel_rfl) rfl (by kernel_rfl) (by kernel_rfl) (fun _ _ _ h => h) (Or.inl ⟨by rfl, ?h7⟩) (by assumption) ?r7
          case h7 => (intro w hSw; (try dsimp only at hSw); go_simp; try with_reducible rfl)
          (try simp only [Act.put, List.setIfInBounds_toArray, List.set_cons_zero, List.set_cons_succ])
          refine hot_take (i := 8) (oi := { dst := some 67, op := Op.indexAddr 64 (Operand.tmp 65) (Operand.tmp 66), type := 0, pos := "linear.go:130", after := #[{ on := 6, ground := Ground.data }, { on := 7, ground := Ground.data }], guard := none }) (v := ?v8) rfl (by kernel_rfl) (by kernel_rfl) (by kernel_rfl) rfl (by kernel_rfl) (by kernel_rfl) (fun _ _ _ h => h) (Or.inl ⟨by rfl, ?h8⟩) (by assumption) ?r8
          case h8 => (intro w hSw; (try dsimp only at hSw); go_simp; try with_reducible rfl)
          (try simp only [Act.put, List.setIfInBounds_toArray, List.set_cons_zero, List.set_cons_succ])
          refine hot_take (i := 9) (oi := { dst := some 68, op := Op.load 3 (Operand.tmp 67), type := 3, pos := "linear.go:130", after := #[{ on := 8, ground := Ground.data }], guard := none }) (v := ?v9) rfl (by kernel_rfl) (by kernel_rfl) (by kernel_rfl) rfl (by kernel_rfl) (by kernel_rfl) (fun _ _ _ h => h) (Or.inl ⟨by rfl, ?h9⟩) (by assumption) ?r9
          case h9 => (intro w hSw; (try dsimp only at hSw); go_simp; try with_reducible rfl)
          (try simp only [Act.put, List.setIfInBounds_toArray, List.set_cons_zero, List.set_cons_succ])
          refine hot_take (i := 10) (oi := { dst := some 69, op := Op.indexAddr 25 (Operand.tmp 64) (Operand.tmp 68), type := 0, pos := "linear.go:130", after := #[{ on := 5, ground := Ground.data }, { on := 9, ground := Ground.data }], guard := none }) (v := ?v10) rfl (by kernel_rfl) (by kernel_rfl) (by kernel_rfl) rfl (by kernel_rfl) (by kernel_rfl) (fun _ _ _ h => h) (Or.inl ⟨by rfl, ?h10⟩) (by assumption) ?r10
          case h10 => (intro w hSw; (try dsimp only at hSw); go_simp; try with_reducible rfl)
          (try simp only [Act.put, List.setIfInBounds_toArray, List.set_cons_zero, List.set_cons_succ])
          refine hot_take (i := 11) (oi := { dst := some 70, op := Op.load 22 (Operand.tmp 69), type := 22, pos := "linear.go:130", after := #[{ on := 10, ground := Ground.data }], guard := none }) (v := ?v11) rfl (by kernel_rfl) (by kernel_rfl) (by kernel_rfl) rfl (by kernel_rfl) (by kernel_rfl) (fun _ _ _ h => h) (Or.inl ⟨by rfl, ?h11⟩) (by assumption) ?r11
          case h11 => (intro w hSw; (try dsimp only at hSw); go_simp; try with_reducible rfl)
          (try simp only [Act.put, List.setIfInBounds_toArray, List.set_cons_zero, List.set_cons_succ])
          refine hot_take (i := 12) (oi := { dst := some 71, op := Op.move (Operand.tmp 13), type := 22, pos := "linear.go:130", after := #[], guard := none }) (v := ?v12) rfl (by kernel_rfl) (by kernel_rfl) (by kernel_rfl) rfl (by kernel_rfl) (by kernel_rfl) (fun _ _ _ h => h) (Or.inl ⟨by rfl, ?h12⟩) (by assumption) ?r12
          case h12 => (intro w hSw; (try dsimp only at hSw); go_simp; try with_reducible rfl)
          (try simp only [Act.put, List.setIfInBounds_toArray, List.set_cons_zero, List.set_cons_succ])
          refine hot_one (i := 13) (oi := { dst := some 72, op := Op.call { callee := Callee.value (Operand.func 70), args := #[Operand.tmp 70, Operand.tmp 71], argTypes := #[22, 22] }, type := 56, pos := "linear.go:130", after := #[{ on := 11, ground := Ground.data }, { on := 12, ground := Ground.data }], guard := none }) rfl (by kernel_rfl) (fun K hK => ?_)
          go_simp
          go_wp2_with (go_at_call 70; refine (KAx.out _ hB.drew).mono ?_; rintro e w3 ⟨rfl, hbd⟩)
          have hb3 : Below W.heap.size W w3 := Below.chain ((Below.refl W.heap.size W).drew) hbd
          have hHeld := HSS.out _ hb3
          refine hK.out _ _ (fun _ => hHeld) ?_
          clear hK K
          (try simp only [Act.put, List.setIfInBounds_toArray, List.set_cons_zero, List.set_cons_succ])
          have hsb3 := HSB.out.keep hb3
          have e0 := HCE.out _ hsb3; have e1 := hsb3.frozen j; have e2 := hsb3.lt
          refine hot_takeW (i := 14) (oi := { dst := some 58, op := Op.move (Operand.tmp 72), type := 56, pos := "linear.go:130", after := #[{ on := 13, ground := Ground.data }], guard := none }) (v := ?v14) rfl (by kernel_rfl) (by kernel_rfl) (by kernel_rfl) rfl (fun _ _ _ h => h) (Or.inl ⟨by rfl, ?h14⟩) (by assumption) ?r14
          case h14 => (intro w _; go_simp; try with_reducible rfl)
          (try simp only [Act.put, List.setIfInBounds_toArray, List.set_cons_zero, List.set_cons_succ])
          refine hot_takeW (i := 15) (oi := { dst := some 73, op := Op.extract (Operand.tmp 58) 0, type := 22, pos := "linear.go:130", after := #[{ on := 14, ground := Ground.data }], guard := none }) (v := ?v15) rfl (by kernel_rfl) (by kernel_rfl) (by kernel_rfl) rfl (fun _ _ _ h => h) (Or.inl ⟨by rfl, ?h15⟩) (by assumption) ?r15
          case h15 => (intro w _; go_simp; try with_reducible rfl)
          (try simp only [Act.put, List.setIfInBounds_toArray, List.set_cons_zero, List.set_cons_succ])
          refine hot_takeW (i := 16) (oi := { dst := some 74, op := Op.extract (Operand.tmp 58) 1, type := 28, pos := "linear.go:130", after := #[{ on := 14, ground := Ground.data }, { on := 18, ground := Ground.gcOnly Departure.lateStores }], guard := none }) (v := ?v16) rfl (by kernel_rfl) (by kernel_rfl) (by kernel_rfl) rfl (fun _ _ _ h => h) (Or.inl ⟨by rfl, ?h16⟩) (by assumption) ?r16
          case h16 => (intro w _; go_simp; try with_reducible rfl)
          (try simp only [Act.put, List.setIfInBounds_toArray, List.set_cons_zero, List.set_cons_succ])
          refine hot_takeW (i := 17) (oi := { dst := some 75, op := Op.indexAddr 25 (Operand.tmp 59) (Operand.tmp 63), type := 0, pos := "linear.go:130", after := #[{ on := 0, ground := Ground.data }, { on := 4, ground := Ground.data }, { on := 0, ground := Ground.phase }, { on := 1, ground := Ground.phase }, { on := 2, ground := Ground.phase }, { on := 3, ground := Ground.phase }, { on := 4, ground := Ground.phase }, { on := 5, ground := Ground.phase }, { on := 6, ground := Ground.phase }, { on := 7, ground := Ground.phase }, { on := 8, ground := Ground.phase }, { on := 9, ground := Ground.phase }, { on := 10, ground := Ground.phase }, { on := 11, ground := Ground.phase }, { on := 12, ground := Ground.phase }, { on := 13, ground := Ground.phase }, { on := 14, ground := Ground.phase }, { on := 15, ground := Ground.phase }, { on := 16, ground := Ground.textOnly Departure.lateStores }], guard := none }) (v := ?v17) rfl (by kernel_rfl) (by kernel_rfl) (by kernel_rfl) rfl (fun _ _ _ h => h) (Or.inl ⟨by rfl, ?h17⟩) (by assumption) ?r17
          case h17 => (intro w _; go_simp; try with_reducible rfl)
          (try simp only [Act.put, List.setIfInBounds_toArray, List.set_cons_zero, List.set_cons_succ])
          refine hot_one (i := 18) (oi := { dst := none, op := Op.store 22 (Operand.tmp 75) (Operand.tmp 73), type := 0, pos := "linear.go:130", after := #[{ on := 17, ground := Ground.data }, { on := 15, ground := Ground.data }, { on := 13, ground := Ground.chain }, { on := 0, ground := Ground.phase }, { on := 1, ground := Ground.phase }, { on := 2, ground := Ground.phase }, { on := 3, ground := Ground.phase }, { on := 4, ground := Ground.phase }, { on := 5, ground := Ground.phase }, { on := 6, ground := Ground.phase }, { on := 7, ground := Ground.phase }, { on := 8, ground := Ground.phase }, { on := 9, ground := Ground.phase }, { on := 10, ground := Ground.phase }, { on := 11, ground := Ground.phase }, { on := 12, ground := Ground.phase }, { on := 13, ground := Ground.phase }, { on := 14, ground := Ground.phase }, { on := 15, ground := Ground.phase }, { on := 16, ground := Ground.textOnly Departure.lateStores }], guard := none }) rfl (by kernel_rfl) (fun K hK => ?_)
          go_simp
          refine hK.out _ _ (fun h => by cases h) ?_
          clear hK K
          refine hot_done (by kernel_rfl) ?_ _
          have HKF := (keepsOthers_below hb3).from W4.heap.size
          have hg9s := hsb3.lt
          have hv3 := boxed_below hv hb3; have htb3 := boxed_below htb hb3; have hrb3 := boxed2_below hrb2 hb3
          have hB3 := Below.chain hB hb3
          have hrl := HRL.out
          have hne := boxed_ne_blk hv3 hsb3
          refine ⟨HKF.trans ((KeepsOthers.setCell w3 ⟨g9, j, none⟩ (.string nv)).from _), (Below.heap_setCell w3 ⟨g9, j, none⟩ _ rb (by show rb ≠ g9; omega)).trans (hb3.block rb (by have := hB.size; have := hv.lt; omega)), ?_, HSE.out _ hsb3, ?_, ?_, hB3.setCell (p := ⟨g9, j, none⟩) (by show w.heap.size ≤ g9; omega) _⟩
          · exact (Below.heap_setCell w3 ⟨g9, j, none⟩ _ b11 hne).trans hv3
          · exact (Below.heap_setCell w3 ⟨g9, j, none⟩ _ (w.heap.size + 1) (by show w.heap.size + 1 ≠ g9; omega)).trans htb3
          · exact (Below.heap_setCell w3 ⟨g9, j, none⟩ _ (w.heap.size + 1 + 1) (by show w.heap.size + 1 + 1 ≠ g9; omega)).trans hrb3
        case done =>
          rintro D ys W hD rfl ⟨hv, hsb, htb, hrb2, hB⟩ hK
          have hml := movL_good l (fun s hs => HG.out s (List.mem_append_left _ hs)) ts n (nz l)
          have hnz : (nz l).length ≤ l.length := nzTo_len l l.length
          have hkg := HG.out k (by simp)
          have gall : ∀ s ∈ movL l ts n (nz l) ++ [k], s.size ≤ 1200000 := fun s hs => by
            rcases List.mem_append.1 hs with hs | hs
            · have := (hml.2 s hs).size (by omega); omega
            · simp at hs; subst hs; have := hkg.size (by decide); omega
          have CE := expression_any (movL l ts n (nz l)) k (some ⟨g9, 0, none⟩) cap W (hsb.row (by simp [hml.1]; omega) hcap2) gall (by rw [hml.1]; omega) (w.heap.size + 1 + 1 + 1) (fun a ha => by cases ha; show _ ≤ g9; omega)
          rw [hml.1] at CE
          have KE := Lib.hid CE
          clear CE gall hml hnz hkg hsb
          generalize exprO (movL l ts n (nz l)) k = O at *
          have v0 := hv.cell; have v2 := hv.lt
          gi_wp2_with fail
          refine ⟨trivial, (callsIn_wide.2 KE.out).mono ?_⟩
          rintro e w5 ⟨ae, ce, rfl, re, hb5⟩
          have hr5 := boxed2_below hrb2 hb5; have hB5 := Below.chain hB hb5
          have hK5 : w5.heap[D]? = some (.deferred (some [])) := (hb5.block D (Array.getElem?_eq_some_iff.1 hK).1).trans hK
          have z0 := hr5.bx.c0; have z1 := hr5.bx.c1; have z2 := hr5.bx.f0; have z3 := hr5.bx.f1; have z4 := hr5.bx.lt
          clear v0 v2
          gi_wp2
          obtain ⟨q1, q2⟩ := box2 z0 z1 (.slice ae O.l.length ce) (.string O.k)
          have hR := (re.set (p := w.heap.size + 1 + 1) (by omega) 0 (.slice ae O.l.length ce)).set (p := w.heap.size + 1 + 1) (by omega) 1 (.string O.k)
          have hBB := below2 (p := w.heap.size + 1 + 1) hB5 (by omega) (.slice ae O.l.length ce) (.string O.k)
          have hDn : D ≠ w.heap.size + 1 + 1 := by have := V4.r.bx.lt; omega
          have hK6 : ((w5.setCell ⟨w.heap.size + 1 + 1, 0, none⟩ (.slice ae O.l.length ce)).setCell ⟨w.heap.size + 1 + 1, 1, none⟩ (.string O.k)).heap[D]? = some (.deferred (some [])) :=
            ((Below.heap_setCell _ ⟨w.heap.size + 1 + 1, 1, none⟩ _ D hDn).trans (Below.heap_setCell _ ⟨w.heap.size + 1 + 1, 0, none⟩ _ D hDn)).trans hK5
          generalize (w5.setCell ⟨w.heap.size + 1 + 1, 0, none⟩ (.slice ae O.l.length ce)).setCell ⟨w.heap.size + 1 + 1, 1, none⟩ (.string O.k) = W6 at *
          refine ⟨by simp, .inl ⟨_, _, rfl, run_takeDeferred hK6, ?_⟩⟩
          have c3 : (W6.putObj D (.deferred none)).cell? ⟨w.heap.size + 1 + 1, 0, none⟩ = some (.slice ae O.l.length ce) := by
            rw [World.cell?_of_block (w := W6) (a := ⟨w.heap.size + 1 + 1, 0, none⟩) (World.putObj_heap_other hDn.symm)]; exact q1
          have d3 : (W6.putObj D (.deferred none)).cell? ⟨w.heap.size + 1 + 1, 1, none⟩ = some (.string O.k) := by
            rw [World.cell?_of_block (w := W6) (a := ⟨w.heap.size + 1 + 1, 1, none⟩) (World.putObj_heap_other hDn.symm)]; exact q2
          refine ⟨.tuple #[.agg #[.slice ae O.l.length ce, .string O.k], .int .i64 (O.e : Nat)], by simp [results, Tryz.results36, go_sem, c3, d3], ae, ce, rfl, (RowB.put hK6 _ hR).lower (by omega), ?_⟩
          exact hBB.trans (belowK_b (w := w) (Nat.le_refl _) _ D _ _ (by have := V4.b.size; omega) hK6 rfl rfl)
end Go.Proofs.YtjobmkdaaionlaaGreatDoor
