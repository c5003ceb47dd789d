import Derived.Test.YtjjkabgbcflipaaCu22
import Derived.Test.YtjjkabgbcflipaaCu18
import Derived.Test.YtjjkabgbcflipaaCu14
import Derived.Test.YtjjkabgbcflipaaCu16
set_option linter.unusedSimpArgs false
set_option linter.unusedVariables false
namespace Go.Proofs.Ytjjkabgbcflipaa
open Go Go.Proofs Go.RowKit Go.Shelf GM

attribute [local go_sem] Oper.semAt_some

theorem NmAt.of_row {W : World} {g P : Nat} {z : Int} (hb : W.heap[g]? = some (.cells (intCells (List.replicate P z)).toArray 3 (0, 0))) : NmAt W g P (fun _ => z) := by
  refine ⟨fun k hk => ?_, fun k => frozen_of_row _ _ k _ _ hb, (Array.getElem?_eq_some_iff.1 hb).1⟩
  rw [cell_of_row _ _ k _ _ (0, 0) hb]
  simp [intCells, hk]
theorem nodup_len : ∀ (P : Nat) (t : List Nat), t.Nodup → (∀ x ∈ t, x < P) → t.length ≤ P
  | 0, t, _, h => by
    cases t with
    | nil => simp
    | cons a l => exact absurd (h a (by simp)) (by omega)
  | P + 1, t, hn, h => by
    have h1 := nodup_len P (t.erase P) (hn.erase P) (fun x hx => by
      have h2 := h x (List.mem_of_mem_erase hx)
      have h3 : x ≠ P := fun e => by subst e; exact (List.Nodup.not_mem_erase hn) hx
      omega)
    have h4 := List.length_erase (a := P) (l := t)
    split at h4 <;> omega
theorem sortN_pw (u : List Nat) : (sortN u).Pairwise (· ≤ ·) := by
  have h := List.pairwise_mergeSort (le := fun (x y : Nat) => decide (x ≤ y)) (fun a b c => by simp; omega) (fun a b => by simp; omega) u
  exact h.imp (fun h => by simpa using h)
/-- What Components does to the numbers: round k. -/
def freeL (nx : Nat → List Nat) (N : Nat → Int) (L : List (List Nat)) : List Nat := (L.find? (freeG nx N)).getD []
def compN (nx : Nat → List Nat) (L : List (List Nat)) : Nat → Nat → Int
  | 0 => fun _ => -1
  | k + 1 => fun p => if p ∈ freeL nx (compN nx L k) L then (k : Int) else compN nx L k p
def putN (N : Nat → Int) (l : List Nat) (k : Nat) (p : Nat) : Int := if p ∈ l then (k : Int) else N p
theorem putN_nil (N : Nat → Int) (k : Nat) : putN N [] k = N := by funext p; simp [putN]
theorem putN_take {N : Nat → Int} {l : List Nat} {k i : Nat} (hi : i < l.length) (p : Nat) : putN N (l.take (i + 1)) k p = if p = atD l i then (k : Int) else putN N (l.take i) k p := by
  unfold putN
  rw [atD_take hi]
  simp only [List.mem_append, List.mem_singleton]
  by_cases e : p = atD l i
  · rw [if_pos (.inr e), if_pos e]
  · rw [if_neg e]; simp only [e, or_false]
theorem compN_succ (nx : Nat → List Nat) (L : List (List Nat)) (k : Nat) : compN nx L (k + 1) = putN (compN nx L k) (freeL nx (compN nx L k) L) k := rfl
/-- What free answers, as a row that can be read. -/
theorem free_row {lo : Nat} {W : World} {gv : Value} {L : List Gp} {nx : Nat → List Nat} {N : Nat → Int} (h : GvAt lo W gv L) : IR (fun b => b < W.heap.size) W (freeV nx N L) (freeL nx N (L.map Gp.l)) := by
  unfold freeV freeL
  rw [List.find?_map]
  cases hf : L.find? (fun x => freeG nx N x.l) with
  | none =>
    rw [show L.find? (freeG nx N ∘ Gp.l) = none from hf]
    exact ⟨none, 0, rfl, .inl rfl⟩
  | some x =>
    rw [show L.find? (freeG nx N ∘ Gp.l) = some x from hf]
    have hm := List.mem_of_find?_eq_some hf
    exact IR.of_own (h.pts x hm) (fun b e => ((h.pts x hm).lt e).2)
theorem freeL_mem {nx : Nat → List Nat} {N : Nat → Int} {L : List (List Nat)} {p : Nat} (h : p ∈ freeL nx N L) : ∃ l ∈ L, p ∈ l := by
  unfold freeL at h
  cases hf : L.find? (freeG nx N) with
  | none => rw [hf] at h; simp at h
  | some x => rw [hf] at h; exact ⟨x, List.mem_of_find?_eq_some hf, h⟩
theorem freeL_len {nx : Nat → List Nat} {N : Nat → Int} {L : List (List Nat)} {n : Nat} (h : ∀ l ∈ L, l.length ≤ n) : (freeL nx N L).length ≤ n := by
  unfold freeL
  cases hf : L.find? (freeG nx N) with
  | none => simp
  | some x => exact h x (List.mem_of_find?_eq_some hf)
/-- The groups as components has them. -/
structure GLs (P : Nat) (us : List (List Nat)) (LL : List (List Nat)) : Prop where
  perm : LL.Perm (us.map sortN)
  ne : ∀ l ∈ LL, l ≠ [] ∧ l.Pairwise (· ≤ ·) ∧ (∀ p ∈ l, p < P) ∧ l.length ≤ P
  len : LL.length ≤ P
theorem gls_of {P : Nat} {nx : Nat → List Nat} {ps : List Nat} {us : List (List Nat)} {L : List Gp} (hg : GR nx ps us.flatten us) (hp : ∀ p ∈ ps, p < P) (hn : ∀ q, q < P → ∀ x ∈ nx q, x < P) (hL : L.map Gp.l = us.map sortN) :
    GLs P us ((L.mergeSort fun x y => decide (hdG x ≤ hdG y)).map Gp.l) := by
  have hb := hg.bound P hp hn
  have hperm : ((L.mergeSort fun x y => decide (hdG x ≤ hdG y)).map Gp.l).Perm (us.map sortN) := by
    rw [← hL]; exact (List.mergeSort_perm ..).map _
  have hfl := nodup_len P us.flatten hg.nodup hb
  refine ⟨hperm, fun l hl => ?_, ?_⟩
  · obtain ⟨u, hu, rfl⟩ := List.mem_map.1 (hperm.subset hl)
    refine ⟨sortN_ne (hg.ne u hu), sortN_pw u, fun p hp => hb p (List.mem_flatten.2 ⟨u, hu, mem_sortN.1 hp⟩), ?_⟩
    have h1 := (List.sublist_flatten_of_mem hu).length_le
    have h2 : (sortN u).length = u.length := by unfold sortN; exact List.length_mergeSort ..
    omega
  · rw [hperm.length_eq, List.length_map]
    exact Nat.le_trans (len_flat us hg.ne) hfl
theorem nxR_lt {P : Nat} {E : List Ed} (hp : ∀ j, j < E.length → isPt P (edD E j).f = true ∧ isPt P (edD E j).t = true) {q x : Nat} (hq : q < P) (hx : x ∈ nxR P E q) : x < P := by
  obtain ⟨j, hj, -, e⟩ := (nx_mem (fun d => d.t) (fun d => d.f) E hq).1 hx
  have := isPt_true (hp j hj).1
  omega
theorem hd_sorted (L : List Gp) : (L.mergeSort fun x y => decide (hdG x ≤ hdG y)).Pairwise (fun x y => x.l.head?.getD 0 ≤ y.l.head?.getD 0) := by
  have h := List.pairwise_mergeSort (le := fun (x y : Gp) => decide (hdG x ≤ hdG y)) (fun a b c => by simp; omega) (fun a b => by simp; omega) L
  exact h.imp (fun h => by simp only [decide_eq_true_eq] at h; unfold hdG at h; omega)
def CompQ (P : Nat) (E : List Ed) (nxF : Nat → List Nat) (w : World) : Ending → World → Prop := fun e w' =>
  ∃ (t : List Nat) (us LL : List (List Nat)) (g : Nat), e = .returned (.slice (some ⟨g, 0, none⟩) P P) ∧ VL nxF (fun _ => False) (List.range P) t ∧ GR (nxR P E) t.reverse us.flatten us ∧ GLs P us LL ∧ LL.Pairwise (fun x y => x.head?.getD 0 ≤ y.head?.getD 0) ∧
    NmAt w' g P (compN nxF LL LL.length) ∧ w.heap.size ≤ g ∧ Below w.heap.size w w'
set_option maxRecDepth 100000 in
set_option maxHeartbeats 600000 in
theorem components_any {A : Nat → Prop} (P : Nat) (x : Int) (ao : Option Addr) (c : Nat) (E : List Ed) (w : World) (hr : ERow A w ao c E) (h0 : ckG P x E = 0) :
    Calls Try.prog 55 #[.agg #[.int .i64 (P : Int), .int .i64 x, .slice ao E.length c]] w (CompQ P E (nxt (esN (fun d => d.t) E) (lsN P (fun d => d.f) E)) w) := by
  have hA : Below w.heap.size w (w.alloc (Obj.cells #[.int .i64 (P : Int), .int .i64 x, .slice ao E.length c] 24)) := (Below.refl _ _).alloc (Nat.le_refl _) _
  have hX := GBx.new w P x ao E.length c
  have KA' := Lib.hid hA; have HX := Lib.hid hX
  clear hA hX
  obtain ⟨hn1, hn2, hlen, hpts⟩ := ckG_ok h0
  have k2 := fun W hW => forward_vr P x ao c E W (hr.keep (B := A) (But.of_below (S := fun _ => False) (w' := W) hW) (fun _ h _ => ⟨id, h⟩)) h0
  have HR := Lib.hid hr
  have K2 := Lib.hid k2; have H0 := Lib.hid h0; have HL := Lib.hid hlen; have HPT := Lib.hid hpts
  have hbE : (esN (fun d => d.t) E).length ≤ 100000 := by unfold esN; rw [List.length_map]; omega
  have hbL : ∀ q, (rowD (lsN P (fun d => d.f) E) q).length ≤ 100000 := fun q => Nat.le_trans (lsN_len P q _ E) (by omega)
  have HBE := Lib.hid hbE; have HBL := Lib.hid hbL
  clear k2 h0 hlen hpts hr hbE hbL
  obtain ⟨y0, y1, y2, y3⟩ := HX.out
  go_enter Try.func55, Try.ntmps55
  go_wp2_with (go_at_call 47; refine (K2.out _ KA'.out).mono ?_; rintro e w2 ⟨ve, vl, rfl, hv, hb⟩; refine Hid.out ?_)
  have HX2 := Lib.hid (HX.out.below hb)
  have HB2 := Lib.hid (Below.chain KA'.out hb)
  obtain ⟨eo, ec, rfl⟩ := hv.ends.slice
  obtain ⟨tb, tc, rfl, -⟩ := hv.tab
  have HV := Lib.hid hv
  have bV : Below w2.heap.size w2 (w2.alloc (Obj.cells #[.slice eo (esN (fun d => d.t) E).length ec, .slice (some ⟨tb, 0, none⟩) P tc] 89)) := (Below.refl _ _).alloc (Nat.le_refl _) _
  have hz3 : (w2.alloc (Obj.cells #[.slice eo (esN (fun d => d.t) E).length ec, .slice (some ⟨tb, 0, none⟩) P tc] 89)).heap.size = w2.heap.size + 1 := by simp
  have k0 : (w2.alloc (Obj.cells #[.slice eo (esN (fun d => d.t) E).length ec, .slice (some ⟨tb, 0, none⟩) P tc] 89)).cell? ⟨w2.heap.size, 0, none⟩ = some (.slice eo (esN (fun d => d.t) E).length ec) := by go_cell
  have k1 : (w2.alloc (Obj.cells #[.slice eo (esN (fun d => d.t) E).length ec, .slice (some ⟨tb, 0, none⟩) P tc] 89)).cell? ⟨w2.heap.size, 1, none⟩ = some (.slice (some ⟨tb, 0, none⟩) P tc) := by go_cell
  have HX3 := Lib.hid (HX2.out.below bV)
  have HB3 := Lib.hid (Below.chain HB2.out bV)
  have hv3 := hv.keep (B := fun b => b < (w2.alloc (Obj.cells #[.slice eo (esN (fun d => d.t) E).length ec, .slice (some ⟨tb, 0, none⟩) P tc] 89)).heap.size) (KA.of_below bV) (fun b _ h => by rw [hz3]; omega)
  have kg := groupsOf_any (w2.alloc (Obj.cells #[.slice eo (esN (fun d => d.t) E).length ec, .slice (some ⟨tb, 0, none⟩) P tc] 89)) (by omega) hn2 HL.out H0.out (HR.out.keep (B := A) (But.of_below (S := fun _ => False) HB3.out) (fun _ h _ => ⟨id, h⟩)) hv3 HBL.out HBE.out
  have KG := Lib.hid kg; have HZ3 := Lib.hid hz3; have HV3 := Lib.hid hv3
  obtain ⟨z0, z1, z2, z3⟩ := HX3.out
  clear hv hb y0 y1 y2 y3 kg hv3 bV
  refine Lib.hid ?_
  go_wp2_with (go_at_call 71; refine (KG.out).mono ?_; rintro e w4 ⟨t, us, gv, L, rfl, g1, g2, g3, g4, g5⟩; refine Hid.out ?_)
  have HX4 := Lib.hid (HX3.out.below g5)
  have HB4 := Lib.hid (Below.chain HB3.out g5)
  have c0 := (g5.cell (p := ⟨w2.heap.size, 0, none⟩) (by rw [HZ3.out]; dsimp only; omega)).trans k0
  have c1 := (g5.cell (p := ⟨w2.heap.size, 1, none⟩) (by rw [HZ3.out]; dsimp only; omega)).trans k1
  have v4 := HV3.out.keep (B := fun b => b < w4.heap.size) (KA.of_below g5) (fun b h _ => Nat.lt_of_lt_of_le h g5.size)
  have C0 := Lib.hid c0; have C1 := Lib.hid c1; have HV4 := Lib.hid v4; have G1 := Lib.hid g1; have G2 := Lib.hid g2; have G4 := Lib.hid g4
  have hgls := gls_of (P := P) g2 (fun p hp => VL.bound g1 P (fun q hq => List.mem_range.1 hq) (fun q hq => nxt_lt HV4.out hq) p (List.mem_reverse.1 hp)) (fun q hq x hx => nxR_lt HPT.out hq hx) g3
  have HGL := Lib.hid hgls
  obtain ⟨go, gc, rfl⟩ := g4.slice
  have bR : Below w4.heap.size w4 (w4.alloc (Obj.cells #[.int .i64 (-1)] 3)) := (Below.refl _ _).alloc (Nat.le_refl _) _
  have kr := repeat_any P w4.heap.size (-1) (w4.alloc (Obj.cells #[.int .i64 (-1)] 3)) (by omega) (by go_cell) (by simp)
  have KR := Lib.hid kr
  have HX5 := Lib.hid (HX4.out.below bR); have BR := Lib.hid bR
  obtain ⟨y0, y1, y2, y3⟩ := HX5.out
  have hw4z : w2.heap.size < w4.heap.size := by have := g5.size; rw [HZ3.out] at this; omega
  have HW4Z := Lib.hid hw4z
  clear z0 z1 z2 z3 g1 g2 g3 g4 g5 k0 k1 c0 c1 v4 hgls kr bR hw4z
  refine Lib.hid ?_
  go_wp2_with (go_at_call 72; refine (KR.out).mono ?_; rintro e w6 ⟨g, rfl, hg, hgl, hbw⟩; refine Hid.out ?_)
  have hb6 : Below w4.heap.size w4 w6 := BR.out.trans (hbw.mono (by simp))
  have hg4 : w4.heap.size ≤ g := by have : (w4.alloc (Obj.cells #[.int .i64 (-1)] 3)).heap.size = w4.heap.size + 1 := by simp
                                    omega
  have HNM := Lib.hid (NmAt.of_row hg)
  have HB6 := Lib.hid hb6; have HG4 := Lib.hid hg4
  clear hg hgl hbw hb6 y0 y1 y2 y3 hg4
  obtain ⟨LS, hLS⟩ : ∃ LS, L.mergeSort (fun x y => decide (hdG x ≤ hdG y)) = LS := ⟨_, rfl⟩
  have HSRT := Lib.hid hLS
  rw [hLS] at G4 HGL
  have hm : LS.length = L.length := by rw [← hLS]; exact List.length_mergeSort ..
  have hlen : LS.length ≤ 512 := by have := HGL.out.len; rw [List.length_map] at this; omega
  have HLEN := Lib.hid hlen
  clear hLS
  rw [hm] at hlen
  generalize L.length = m at hm hlen ⊢
  have HM := Lib.hid hm
  clear hm
  refine Lib.hid ?_
  go_wp2_with fail
  go_loopw [20] (fun iv wr => ∃ k : Nat, k ≤ m ∧ iv = .int .i64 (k : Int) ∧ NmAt wr g P (compN (nxt (esN (fun d => d.t) E) (lsN P (fun d => d.f) E)) (LS.map Gp.l) k) ∧ But (fun b => b = g) w6 wr) (fun iv _ => m - (intOf iv).toNat)
  case atStart => exact ⟨0, Nat.zero_le _, rfl, HNM.out, But.refl _ _⟩
  case round =>
    obtain ⟨k, hk, rfl, hnm, hB⟩ := hrel
    have hbw : ∀ q : Addr, q.block < w4.heap.size → wr.cell? q = w4.cell? q := fun q hq => (hB.cell (Nat.lt_of_lt_of_le hq HB6.out.size) (fun e => by have := HG4.out; omega)).trans (HB6.out.cell hq)
    have hka : But (fun b => b = g) w4 wr := (But.of_below (S := fun b => b = g) HB6.out).trans hB (fun _ _ e => e)
    have HNW := Lib.hid hnm; have HBB := Lib.hid hB; have HKA := Lib.hid hka
    have y0 := (hbw ⟨w2.heap.size, 0, none⟩ HW4Z.out).trans C0.out
    have y1 := (hbw ⟨w2.heap.size, 1, none⟩ HW4Z.out).trans C1.out
    clear hbw hnm hB hka
    by_cases hlt : k < m
    · have HLT := Lib.hid hlt
      generalize hN : compN (nxt (esN (fun d => d.t) E) (lsN P (fun d => d.f) E)) (LS.map Gp.l) k = N at *
      have hHN := Lib.hid hN
      have hng : ∀ b, b < w4.heap.size → b ≠ g := fun b h => by have := HG4.out; omega
      have kf := free_any wr hn2 (HV4.out.keep (KA.of_but HKA.out (fun b h _ => hng b h)) (fun b h _ => Nat.lt_of_lt_of_le h HKA.out.size)) HBL.out HBE.out (G4.out.but HKA.out (fun b _ h => hng b h)) (fun x hx => by
          obtain ⟨h1, h2, h3, h4⟩ := HGL.out.ne x.l (List.mem_map_of_mem hx)
          exact ⟨h1, h2, h3, by omega⟩) HLEN.out HNW.out.nc HNW.out.lt (nc := P)
      have hrow := free_row (nx := nxt (esN (fun d => d.t) E) (lsN P (fun d => d.f) E)) (N := N) G4.out
      obtain ⟨fo, fc, hfv, hfc⟩ := hrow.get
      rw [hfv, HM.out] at kf
      have hfl : (freeL (nxt (esN (fun d => d.t) E) (lsN P (fun d => d.f) E)) N (LS.map Gp.l)).length ≤ 512 := freeL_len (fun l hl => by have := (HGL.out.ne l hl).2.2.2; omega)
      have hfp : ∀ p ∈ freeL (nxt (esN (fun d => d.t) E) (lsN P (fun d => d.f) E)) N (LS.map Gp.l), p < P := fun p hp => by
        obtain ⟨l, hl, hpl⟩ := freeL_mem hp
        exact (HGL.out.ne l hl).2.2.1 p hpl
      have hsuc := compN_succ (nxt (esN (fun d => d.t) E) (lsN P (fun d => d.f) E)) (LS.map Gp.l) k
      rw [hN] at hsuc
      have HSUC := Lib.hid hsuc
      clear hrow hsuc hN hfv
      generalize freeL (nxt (esN (fun d => d.t) E) (lsN P (fun d => d.f) E)) N (LS.map Gp.l) = fl at *
      obtain ⟨n, hn⟩ : ∃ n, fl.length = n := ⟨_, rfl⟩
      rw [hn] at kf hfc hfl
      have KF := Lib.hid kf; have HFC := Lib.hid hfc; have HFP := Lib.hid hfp; have HN := Lib.hid hn; have HNG := Lib.hid hng
      clear kf hfc hfp hn hng
      go_wp2_with (go_at_call 73; refine (KF.out).mono ?_; rintro e w7 ⟨rfl, b7⟩; refine Hid.out ?_)
      have hb7 := But.of_below (S := fun b => b = g) b7
      have hn7 := HNW.out.below b7
      have HB7 := Lib.hid (HKA.out.trans hb7 (fun _ _ e => e)); have HBB7 := Lib.hid (HBB.out.trans hb7 (fun _ _ e => e)); have HN7 := Lib.hid hn7
      clear b7 hb7 hn7 y0 y1 KF HNW HBB HKA
      refine Lib.hid ?_
      go_wp2_with fail
      go_loopw [28] (fun jv wr => ∃ j : Nat, j ≤ n ∧ jv = .int .i64 (j : Int) ∧ NmAt wr g P (putN N (fl.take j) k) ∧ But (fun b => b = g) w6 wr) (fun jv _ => n - (intOf jv).toNat)
      case atStart => exact ⟨0, Nat.zero_le _, rfl, by rw [List.take_zero, putN_nil]; exact HN7.out, HBB7.out⟩
      case round =>
        obtain ⟨j, hj, rfl, hnm, hB⟩ := hrel
        have hb4 : But (fun b => b = g) w4 wr := (But.of_below (S := fun b => b = g) HB6.out).trans hB (fun _ _ e => e)
        by_cases hjt : j < n
        · obtain ⟨b, o, rfl, hbl, hc⟩ := HFC.out j hjt
          have z1 := (hb4.cell (p := ⟨b, o + j, none⟩) hbl (HNG.out b hbl)).trans hc
          have hjl : j < fl.length := by have := HN.out; omega
          have hp : atD fl j < P := HFP.out _ (atD_mem hjl)
          have z2 := hnm.nc _ hp
          have z3 := hnm.nf (atD fl j)
          have HNM3 := Lib.hid hnm; have HB3' := Lib.hid hB; have HJL := Lib.hid hjl
          clear hb4 hnm hB hjl hc
          go_wp2_with fail
          go_roundw
          case rel => exact ⟨j + 1, hjt, by go_num, HNM3.out.set _ _ hp (fun q _ => putN_take HJL.out q), HB3'.out.set _ _ (fun _ => rfl)⟩
          case measure => simp [intOf]; omega
        · have hjn : j = n := by omega
          subst hjn
          have htk : putN N (fl.take j) k = compN (nxt (esN (fun d => d.t) E) (lsN P (fun d => d.f) E)) (LS.map Gp.l) (k + 1) := by rw [HSUC.out, List.take_of_length_le (by have := HN.out; omega)]
          rw [htk] at hnm
          have HNM3 := Lib.hid hnm; have HB3' := Lib.hid hB
          clear hb4 hnm hB htk
          go_wp2_with fail
          go_roundw
          case rel => exact ⟨k + 1, hlt, by go_num, HNM3.out, HB3'.out⟩
          case measure => simp [intOf]; omega
    · have hkm : k = m := by omega
      subst hkm
      go_wp2_with fail
      refine bodyPost_ret (by first | (simp [results, Try.results55, go_sem]; done) | (simp [results, Try.results55, go_sem]; rfl)) rfl ?_
      refine ⟨t, us, LS.map Gp.l, g, rfl, G1.out, G2.out, HGL.out, ?_, ?_, ?_, ?_⟩
      · rw [List.pairwise_map, ← HSRT.out]
        exact hd_sorted L
      · rw [List.length_map, HM.out]; exact HNW.out
      · have := HB4.out.size; have := HG4.out; omega
      · have hb := HKA.out
        exact HB4.out.trans ⟨hb.os, hb.tape, hb.output, hb.size, fun b hlt => hb.block b (by have := HB4.out.size; omega) (fun e => by have := HB4.out.size; have := HG4.out; omega)⟩
/-- What Components answers. -/
def CmpsQ (n x : Int) (E : List Ed) (w : World) : Ending → World → Prop := fun e w' =>
  Below w.heap.size w w' ∧ ((ckG n x E ≠ 0 ∧ e = .returned (.tuple #[nilS, .int .i64 (ckG n x E)])) ∨
    (ckG n x E = 0 ∧ ∃ (t : List Nat) (us LL : List (List Nat)) (g : Nat), e = .returned (.tuple #[.slice (some ⟨g, 0, none⟩) n.toNat n.toNat, .int .i64 0]) ∧ VL (nxt (esN (fun d => d.t) E) (lsN n.toNat (fun d => d.f) E)) (fun _ => False) (List.range n.toNat) t ∧ GR (nxR n.toNat E) t.reverse us.flatten us ∧ GLs n.toNat us LL ∧ LL.Pairwise (fun x y => x.head?.getD 0 ≤ y.head?.getD 0) ∧
      NmAt w' g n.toNat (compN (nxt (esN (fun d => d.t) E) (lsN n.toNat (fun d => d.f) E)) LL LL.length) ∧ w.heap.size ≤ g))
set_option maxRecDepth 20000 in
set_option maxHeartbeats 4000000 in
theorem Components_any {A : Nat → Prop} (n x : Int) (ao : Option Addr) (c : Nat) (E : List Ed) (w : World) (hr : ERow A w ao c E) :
    Calls Try.prog 25 #[.agg #[.int .i64 n, .int .i64 x, .slice ao E.length c]] w (CmpsQ n x E w) := by
  have hA : Below w.heap.size w (w.alloc (Obj.cells #[.int .i64 n, .int .i64 x, .slice ao E.length c] 24)) := (Below.refl _ _).alloc (Nat.le_refl _) _
  have hX := GBx.new w n x ao E.length c
  have CC := fun W hW => check_any n x ao c E W (hr.keep (B := A) (But.of_below (S := fun _ => False) (w' := W) hW) (fun _ h _ => ⟨id, h⟩))
  have KA' := Lib.hid hA; have HX := Lib.hid hX; have KC := Lib.hid CC; have HR := Lib.hid hr
  clear hA hX CC hr
  by_cases h0 : ckG n x E = 0
  rotate_left
  · obtain ⟨K, hK⟩ : ∃ K, ckG n x E = K := ⟨_, rfl⟩
    have HK := Lib.hid hK
    rw [hK] at h0
    have t1 : ((K : Int) != 0) = true := by rw [bne_iff_ne]; omega
    have H0 := Lib.hid h0
    clear h0 hK
    have k1 := KC.out _ KA'.out
    rw [HK.out] at k1
    have K1 := Lib.hid k1; clear k1 KC
    go_enter Try.func25, Try.ntmps25
    go_wp2_with (go_at_call 21; refine (K1.out).mono ?_; rintro e w1 ⟨rfl, hb⟩; refine Hid.out ?_)
    have HB := Lib.hid (Below.chain KA'.out hb); clear hb
    refine Lib.hid ?_
    go_wp2
    refine bodyPost_ret (by first | (simp [results, Try.results25, go_sem]; done) | (simp [results, Try.results25, go_sem]; rfl)) rfl ?_
    exact ⟨HB.out, .inl ⟨by rw [HK.out]; exact H0.out, by rw [HK.out]⟩⟩
  · have k1 := KC.out _ KA'.out
    rw [h0] at k1
    have K1 := Lib.hid k1; clear k1
    obtain ⟨hn1, hn2, -⟩ := ckG_pos h0
    obtain ⟨P, rfl⟩ := Int.eq_ofNat_of_zero_le (show 0 ≤ n by omega)
    have k2 := fun W hW => components_any P x ao c E W (HR.out.keep (B := A) (But.of_below (S := fun _ => False) (w' := W) hW) (fun _ h _ => ⟨id, h⟩)) h0
    have K2 := Lib.hid k2; have H0 := Lib.hid h0
    clear k2 KC h0 hn1 hn2
    go_enter Try.func25, Try.ntmps25
    go_wp2_with (go_at_call 21; refine (K1.out).mono ?_; rintro e w1 ⟨rfl, hb⟩; refine Hid.out ?_)
    have HB := Lib.hid (Below.chain KA'.out hb)
    obtain ⟨y0, y1, y2, y3⟩ := HX.out.below hb
    clear hb
    refine Lib.hid ?_
    go_wp2_with (go_at_call 55; refine (K2.out _ HB.out).mono ?_; rintro e w2 ⟨t, us, LL, g, rfl, h1, h2, h3, h4, h5, h6, hb⟩; refine Hid.out ?_)
    have HB2 := Lib.hid (Below.chain HB.out hb)
    have HH := Lib.hid (And.intro h1 (And.intro h2 (And.intro h3 (And.intro h4 (And.intro h5 h6))))); have HZ := Lib.hid HB.out.size
    clear hb h1 h2 h3 h4 h5 h6 y0 y1 y2 y3
    refine Lib.hid ?_
    go_wp2
    refine bodyPost_ret (by first | (simp [results, Try.results25, go_sem]; done) | (simp [results, Try.results25, go_sem]; rfl)) rfl ?_
    obtain ⟨h1, h2, h3, h4, h5, h6⟩ := HH.out
    exact ⟨HB2.out, .inr ⟨H0.out, t, us, LL, g, rfl, h1, h2, h3, h4, h5, Nat.le_trans HZ.out h6⟩⟩
end Go.Proofs.Ytjjkabgbcflipaa
namespace Go.Proofs.Ytjjkabgbcflipaa
open Go Go.Proofs Go.RowKit Go.Shelf GM

/-- A visit, computed. -/
def vis (nx : Nat → List Nat) : Nat → List Nat → List Nat → Option (List Nat)
  | 0, _, _ => none
  | _ + 1, _, [] => some []
  | n + 1, m, q :: qs => if m.contains q then vis nx n m qs else
      match vis nx n (q :: m) (nx q) with
      | none => none
      | some t => match vis nx n (q :: (t ++ m)) qs with
        | none => none
        | some u => some (t ++ q :: u)
theorem vis_VL {nx : Nat → List Nat} : ∀ (n : Nat) (m qs t : List Nat), vis nx n m qs = some t → VL nx (fun x => x ∈ m) qs t
  | 0, _, _, _, h => by simp [vis] at h
  | n + 1, m, [], t, h => by simp [vis] at h; subst h; exact .nil
  | n + 1, m, q :: qs, t, h => by
    unfold vis at h
    split at h
    · rename_i hm
      exact .old (by simpa using hm) (vis_VL n m qs t h)
    · rename_i hm
      split at h
      · cases h
      · rename_i t1 h1
        split at h
        · cases h
        · rename_i u h2
          cases h
          refine .new (by simpa using hm) ((vis_VL n _ _ _ h1).congr (fun x => by simp [or_comm])) ((vis_VL n _ _ _ h2).congr (fun x => ?_))
          simp only [List.mem_cons, List.mem_append]
          constructor
          · rintro (h | h | h)
            · exact .inr (.inl h)
            · exact .inr (.inr h)
            · exact .inl h
          · rintro (h | h | h)
            · exact .inr (.inr h)
            · exact .inl h
            · exact .inr (.inl h)
theorem GR.nil_inv {nx : Nat → List Nat} {t : List Nat} {us : List (List Nat)} (h : GR nx [] t us) : t = [] ∧ us = [] := by
  generalize hq : ([] : List Nat) = qs at h
  cases h with
  | nil => exact ⟨rfl, rfl⟩
  | old _ _ => simp at hq
  | new _ _ _ => simp at hq
theorem GR.inv {nx : Nat → List Nat} {ps t : List Nat} {us : List (List Nat)} {p : Nat} (h : GR nx (ps ++ [p]) t us) : ∃ t1 us1 u, GR nx ps t1 us1 ∧ VL nx (fun x => x ∈ t1) [p] u ∧ t = t1 ++ u ∧ us = if u.isEmpty then us1 else us1 ++ [u] := by
  generalize hq : ps ++ [p] = qs at h
  cases h with
  | nil => simp at hq
  | old g hv =>
    obtain ⟨rfl, e⟩ := List.append_inj' hq rfl
    cases e
    exact ⟨_, _, [], g, hv, by simp, rfl⟩
  | @new _ _ u _ _ g hv hn =>
    obtain ⟨rfl, e⟩ := List.append_inj' hq rfl
    cases e
    refine ⟨_, _, u, g, hv, rfl, ?_⟩
    cases u with
    | nil => exact absurd rfl hn
    | cons => rfl
def grs (nx : Nat → List Nat) (n : Nat) : List Nat → Option (List Nat × List (List Nat))
  | [] => some ([], [])
  | p :: ps => match grs nx n ps with
    | none => none
    | some (t, us) => match vis nx n t [p] with
      | none => none
      | some u => some (t ++ u, if u.isEmpty then us else us ++ [u])
theorem grs_det {nx : Nat → List Nat} {n : Nat} : ∀ (ps t : List Nat) (us : List (List Nat)) (t' : List Nat) (us' : List (List Nat)), grs nx n ps = some (t', us') → GR nx ps.reverse t us → t = t' ∧ us = us'
  | [], t, us, t', us', h, g => by
    cases h
    exact g.nil_inv
  | p :: ps, t, us, t', us', h, g => by
    rw [List.reverse_cons] at g
    obtain ⟨t1, us1, u, g1, g2, rfl, rfl⟩ := g.inv
    unfold grs at h
    split at h
    · cases h
    · rename_i t2 us2 h1
      obtain ⟨rfl, rfl⟩ := grs_det ps _ _ _ _ h1 g1
      split at h
      · cases h
      · rename_i u2 h2
        obtain rfl := g2.det _ (vis_VL _ _ _ _ h2)
        cases h
        exact ⟨rfl, rfl⟩
/-- The orders of dominance, computed. -/
def visT (nx : Nat → List Nat) (n r p : Nat) : List Nat := (vis nx n [p] [r]).getD []
theorem DomT.det {nx : Nat → List Nat} {r P n : Nat} {t t0 : List Nat} {T : Nat → List Nat} (h : DomT nx r P t T) (h0 : vis nx n [] [r] = some t0) (h1 : t0.all (fun p => (vis nx n [p] [r]).isSome) = true) :
    t = t0 ∧ parF t T t = parF t0 (visT nx n r) t0 := by
  have e : t = t0 := h.ord.det _ ((vis_VL _ _ _ _ h0).congr (fun x => by simp))
  subst e
  refine ⟨rfl, funext (fun q => parF_congr (fun p hp => ?_) q)⟩
  have h2 := List.all_eq_true.1 h1 p hp
  obtain ⟨u, hu⟩ := Option.isSome_iff_exists.1 h2
  unfold visT
  rw [hu]
  exact (h.wo p hp).det _ ((vis_VL _ _ _ _ hu).congr (fun x => by simp))
theorem sortN_eq {u v : List Nat} (hp : u.Perm v) (hs : v.Pairwise (· ≤ ·)) : sortN u = v := by
  have h1 : (sortN u).Perm v := (by unfold sortN; exact List.mergeSort_perm .. : (sortN u).Perm u).trans hp
  exact h1.eq_of_pairwise (le := (· ≤ ·)) (fun a b _ _ h1 h2 => by omega) (sortN_pw u) hs
theorem groups_eq {P : Nat} {us LL cs : List (List Nat)} (h : GLs P us LL) (hs : LL.Pairwise (fun x y => x.head?.getD 0 ≤ y.head?.getD 0)) (e : (us.map sortN).Perm cs) (hc : cs.Pairwise (fun x y => x.head?.getD 0 ≤ y.head?.getD 0))
    (hi : ∀ a ∈ cs, ∀ b ∈ cs, a.head?.getD 0 = b.head?.getD 0 → a = b) : LL = cs := by
  have hp := h.perm.trans e
  exact hp.eq_of_pairwise (le := fun x y => x.head?.getD 0 ≤ y.head?.getD 0) (fun a b ha hb h1 h2 => hi a (hp.subset ha) b hb (by omega)) hs hc
/-- The chapter's example. -/
def zE (f t : Int) : Ed := { edD [] 0 with f := f, t := t }
def eX : List Ed := [zE 0 1, zE 1 2, zE 2 1, zE 1 3, zE 3 4]
def eY : List Ed := eX ++ [zE 0 2]
theorem eX_ck : ckG 5 4 eX = 0 := by decide +kernel
theorem eY_ck : ckG 5 4 eY = 0 := by decide +kernel
theorem ex_f : vis (nxF 5 eX) 100 [] [0] = some [2, 4, 3, 1, 0] := by decide +kernel
theorem ex_fa : ([2, 4, 3, 1, 0].all fun p => (vis (nxF 5 eX) 100 [p] [0]).isSome) = true := by decide +kernel
theorem ex_b : vis (nxB 5 eX) 100 [] [4] = some [0, 2, 1, 3, 4] := by decide +kernel
theorem ex_ba : ([0, 2, 1, 3, 4].all fun p => (vis (nxB 5 eX) 100 [p] [4]).isSome) = true := by decide +kernel
theorem ey_f : vis (nxF 5 eY) 100 [] [0] = some [2, 4, 3, 1, 0] := by decide +kernel
theorem ey_fa : ([2, 4, 3, 1, 0].all fun p => (vis (nxF 5 eY) 100 [p] [0]).isSome) = true := by decide +kernel
theorem ex_dom {t : List Nat} {T : Nat → List Nat} (h : DomT (nxF 5 eX) 0 5 t T) : ∀ k, k < 5 → parF t T t k = [-1, 0, 1, 1, 3].getD k 0 := by
  obtain ⟨rfl, e⟩ := h.det ex_f ex_fa
  rw [e]
  decide +kernel
theorem ex_pdom {t : List Nat} {T : Nat → List Nat} (h : DomT (nxB 5 eX) 4 5 t T) : ∀ k, k < 5 → parF t T t k = [1, 3, 1, 4, -1].getD k 0 := by
  obtain ⟨rfl, e⟩ := h.det ex_b ex_ba
  rw [e]
  decide +kernel
theorem bkT_of {P : Nat} {t : List Nat} {T T' : Nat → List Nat} (e : parF t T t = parF t T' t) : bkT P t T = bkT P t T' := by
  funext d; unfold bkT; rw [e]
theorem ex_back {t : List Nat} {T : Nat → List Nat} (h : DomT (nxF 5 eX) 0 5 t T) : bkL (bkT 5 t T) eX 5 = [2] := by
  obtain ⟨rfl, e⟩ := h.det ex_f ex_fa
  rw [bkT_of e]
  decide +kernel
theorem rdT_of {P : Nat} {t : List Nat} {T T' : Nat → List Nat} (e : parF t T t = parF t T' t) : rdT P t T = rdT P t T' := by
  funext d; unfold rdT; rw [bkT_of e]
theorem ex_red {t : List Nat} {T : Nat → List Nat} (h : DomT (nxF 5 eX) 0 5 t T) : (!(eX.any (rdT 5 t T))) = true := by
  obtain ⟨rfl, e⟩ := h.det ex_f ex_fa
  rw [rdT_of e]
  decide +kernel
theorem ey_red {t : List Nat} {T : Nat → List Nat} (h : DomT (nxF 5 eY) 0 5 t T) : (!(eY.any (rdT 5 t T))) = false := by
  obtain ⟨rfl, e⟩ := h.det ey_f ey_fa
  rw [rdT_of e]
  decide +kernel
theorem ex_lh : (List.range 5).filter (fun q => !(lsP (bkT 5 [2, 4, 3, 1, 0] (visT (nxF 5 eX) 100 0)) eX q).isEmpty) = [1] := by decide +kernel
theorem ex_lr : lsP (bkT 5 [2, 4, 3, 1, 0] (visT (nxF 5 eX) 100 0)) eX 1 = [2] := by decide +kernel
theorem ex_lm : ∀ y, y < 5 → mkL 1 (rkF [2, 4, 3, 1, 0] 5) y = [1].contains y := by decide +kernel
theorem ex_ln : nxB 5 eX 2 = [1] := by decide +kernel
theorem ex_loops {t : List Nat} {T : Nat → List Nat} {Ls : List Lp} (h : DomT (nxF 5 eX) 0 5 t T) (g : LpOK (nxB 5 eX) (rkF t t.length) (lsP (bkT 5 t T) eX) 5 Ls) : ∃ v, Ls = [⟨1, v, [1, 2]⟩] := by
  obtain ⟨rfl, e⟩ := h.det ex_f ex_fa
  rw [bkT_of e] at g
  obtain ⟨g1, g2⟩ := g
  rw [ex_lh] at g1
  obtain ⟨x, rfl⟩ := List.length_eq_one_iff.1 (show Ls.length = 1 by have := congrArg List.length g1; rwa [List.length_map] at this)
  · obtain ⟨q, v, l⟩ := x
    simp only [List.map_cons, List.map_nil, List.cons.injEq, and_true] at g1
    subst g1
    obtain ⟨tt, h1, h2⟩ := g2 _ (List.mem_singleton.2 rfl)
    dsimp only at h1 h2
    rw [ex_lr] at h1
    have hv : VL (nxB 5 eX) (fun y => mkL 1 (rkF [2, 4, 3, 1, 0] [2, 4, 3, 1, 0].length) y = true) [2] [2] := by
      refine .new (t := []) (u := []) (by show ¬ mkL 1 (rkF [2, 4, 3, 1, 0] 5) 2 = true; rw [ex_lm 2 (by decide)]; decide) ?_ .nil
      rw [ex_ln]
      exact .old (.inl (by show mkL 1 (rkF [2, 4, 3, 1, 0] 5) 1 = true; rw [ex_lm 1 (by decide)]; decide)) .nil
    obtain rfl := h1.det _ hv
    refine ⟨v, ?_⟩
    rw [h2, List.mergeSort_of_pairwise]
    · rfl
    · decide
theorem ex_v : vis (nxF 5 eX) 100 [] (List.range 5) = some [2, 4, 3, 1, 0] := by decide +kernel
theorem ex_g : grs (nxR 5 eX) 100 [2, 4, 3, 1, 0] = some ([0, 2, 1, 3, 4], [[0], [2, 1], [3], [4]]) := by decide +kernel
theorem ex_s : [[0], [2, 1], [3], [4]].map sortN = [[0], [1, 2], [3], [4]] := by
  simp only [List.map_cons, List.map_nil, sortN_eq (u := [0]) (v := [0]) (by decide) (by decide), sortN_eq (u := [2, 1]) (v := [1, 2]) (by decide) (by decide), sortN_eq (u := [3]) (v := [3]) (by decide) (by decide), sortN_eq (u := [4]) (v := [4]) (by decide) (by decide)]
theorem ex_comp {t : List Nat} {us LL : List (List Nat)} (h1 : VL (nxF 5 eX) (fun _ => False) (List.range 5) t) (h2 : GR (nxR 5 eX) t.reverse us.flatten us) (h3 : GLs 5 us LL) (h4 : LL.Pairwise (fun x y => x.head?.getD 0 ≤ y.head?.getD 0)) :
    ∀ k, k < 5 → compN (nxF 5 eX) LL LL.length k = [3, 2, 2, 1, 0].getD k 0 := by
  obtain rfl := h1.det _ ((vis_VL _ _ _ _ ex_v).congr (fun x => by simp))
  obtain ⟨-, rfl⟩ := grs_det _ _ _ _ _ ex_g h2
  obtain rfl := groups_eq h3 h4 (cs := [[0], [1, 2], [3], [4]]) (by rw [ex_s]) (by decide) (by decide)
  decide +kernel
end Go.Proofs.Ytjjkabgbcflipaa
