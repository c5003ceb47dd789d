import Derived.Test.YtjjkabgbcflipaaCt5
set_option linter.unusedSimpArgs false
set_option linter.unusedVariables false
namespace Go.Proofs.Ytjjkabgbcflipaa
open Go Go.Proofs Go.RowKit Go.Shelf GM

attribute [local go_sem] Oper.semAt_some

theorem idF_cases {nx : Nat → List Nat} {r P q : Nat} (hP : ∀ x, Rch nx (fun _ => False) r x → x < P) (hq : q < P) : (idF nx r q = -1 ∧ ∀ e, e ≠ q → ¬ Dm nx r q e) ∨ ∃ s : Nat, s < P ∧ idF nx r q = (s : Int) ∧ IsId nx r q s := by
  classical
  rcases immF_id (dom := fun x e => decide (Dm nx r x e)) (P := P) (q := q) (fun x e _ _ => by simp) hP hq with ⟨-, h⟩ | ⟨p, hp, -, h⟩
  · exact .inl ⟨idF_none h, h⟩
  · exact .inr ⟨p, hp, idF_some h, h⟩
/-- Where a chain stands: what it has, and where it goes on. -/
structure ChS (nx : Nat → List Nat) (r P p : Nat) (D : List Nat) (cur : Int) : Prop where
  nd : D.Nodup
  lt : ∀ d ∈ D, d < P
  sub : ∀ d ∈ D, d = p ∨ Dm nx r p d
  up : (cur = -1 ∧ p ∈ D ∧ ∀ d, Dm nx r p d → d ∈ D) ∨ ∃ c : Nat, c < P ∧ cur = (c : Int) ∧ c ∉ D ∧ (c = p ∨ Dm nx r p c) ∧ (∀ d ∈ D, Dm nx r d c) ∧ (∀ d, Dm nx r p d → d ∈ D ∨ Dm nx r c d) ∧ (p ∈ D ∨ c = p)
theorem ChS.start {nx : Nat → List Nat} {r P p : Nat} (hp : p < P) : ChS nx r P p [] (p : Int) :=
  ⟨by simp, by simp, by simp, .inr ⟨p, hp, rfl, by simp, .inl rfl, by simp, fun d h => .inr h, .inr rfl⟩⟩
theorem ChS.next {nx : Nat → List Nat} {r P p c : Nat} {D : List Nat} (hP : ∀ x, Rch nx (fun _ => False) r x → x < P) (h : ChS nx r P p D (c : Int)) : ChS nx r P p (D ++ [c]) (idF nx r c) ∧ c < P := by
  rcases h.up with ⟨h1, -⟩ | ⟨c', hc, e, h1, h2, h3, h4, h5⟩
  · omega
  · obtain rfl : c = c' := by omega
    refine ⟨⟨?_, ?_, ?_, ?_⟩, hc⟩
    · rw [List.nodup_append]
      exact ⟨h.nd, by simp, fun a ha b hb q => by rw [List.mem_singleton] at hb; rw [q, hb] at ha; exact h1 ha⟩
    · intro d hd
      rcases List.mem_append.1 hd with hd | hd
      · exact h.lt d hd
      · rw [List.mem_singleton] at hd; subst hd; exact hc
    · intro d hd
      rcases List.mem_append.1 hd with hd | hd
      · exact h.sub d hd
      · rw [List.mem_singleton] at hd; subst hd; exact h2
    · have hpD : p ∈ D ++ [c] := by
        rcases h5 with h5 | h5
        · simp [h5]
        · simp [h5]
      rcases idF_cases hP hc with ⟨e1, k1⟩ | ⟨s, hs, e1, k1⟩
      · refine .inl ⟨e1, hpD, fun d hd => ?_⟩
        rcases h4 d hd with k | k
        · simp [k]
        · by_cases e2 : d = c
          · simp [e2]
          · exact (k1 d e2 k).elim
      · refine .inr ⟨s, hs, e1, ?_, .inr ?_, ?_, ?_, .inl hpD⟩
        · intro hd
          rcases List.mem_append.1 hd with hd | hd
          · exact k1.1 ((h3 s hd).anti k1.2.1)
          · rw [List.mem_singleton] at hd; exact k1.1 hd
        · rcases h2 with h2 | h2
          · rw [← h2]; exact k1.2.1
          · exact h2.trans k1.2.1
        · intro d hd
          rcases List.mem_append.1 hd with hd | hd
          · exact (h3 d hd).trans k1.2.1
          · rw [List.mem_singleton] at hd; subst hd; exact k1.2.1
        · intro d hd
          rcases h4 d hd with k | k
          · exact .inl (by simp [k])
          · by_cases e2 : d = c
            · exact .inl (by simp [e2])
            · exact .inr (k1.2.2 d e2 k)
theorem ChS.len {nx : Nat → List Nat} {r P p : Nat} {D : List Nat} {cur : Int} (h : ChS nx r P p D cur) : D.length ≤ P := nodup_len P D h.nd h.lt
theorem ChS.done {nx : Nat → List Nat} {r P p : Nat} {D : List Nat} (h : ChS nx r P p D (-1)) : ∀ d, d ∈ D ↔ d = p ∨ Dm nx r p d := by
  rcases h.up with ⟨-, h1, h2⟩ | ⟨c, -, e, -⟩
  · exact fun d => ⟨h.sub d, fun k => k.elim (fun k => k ▸ h1) (h2 d)⟩
  · omega
set_option maxRecDepth 100000 in
set_option maxHeartbeats 1000000 in
theorem chain_any {nx : Nat → List Nat} {r P p : Nat} (hP : ∀ x, Rch nx (fun _ => False) r x → x < P) (hp : p < P) (hP1 : P ≤ 1000) (v : Value) (w : World) (hv : IRow w v ((List.range P).map (idF nx r))) :
    Calls Try.prog 39 #[v, .int .i64 (p : Int)] w fun e w' => ∃ (u : Value) (D : List Nat), e = .returned (.tuple #[u, .bool true]) ∧ ownI w.heap.size w' u (D.map fun (n : Nat) => (n : Int)) ∧ D.length ≤ P ∧ (∀ d, d ∈ D ↔ d = p ∨ Dm nx r p d) ∧ Below w.heap.size w w' := by
  obtain ⟨ao, vc, rfl, hv⟩ := hv
  have hl : ((List.range P).map (idF nx r)).length = P := by simp
  rw [hl] at hv ⊢
  obtain ⟨g, rfl, hg, hc⟩ : ∃ g, ao = some ⟨g, 0, none⟩ ∧ g < w.heap.size ∧ ∀ k, k < P → w.cell? ⟨g, k, none⟩ = some (.int .i64 (idF nx r k)) := by
    rcases hv with hv | ⟨g, e, hg, hc⟩
    · exfalso
      have := congrArg List.length hv
      rw [hl] at this; simp at this; omega
    · refine ⟨g, e, hg, fun k hk => ?_⟩
      rw [hc k hk, List.getD_eq_getElem?_getD, List.getElem?_map, List.getElem?_range hk]; rfl
  have HC := Lib.hid hc; have HP := Lib.hid hP; have HG := Lib.hid hg
  clear hv hl hc hP hg
  have v1 : IntKind.i64.wrap ((P : Int) + 1) = (P : Int) + 1 := by rw [IntKind.wrap_i64]; omega
  go_enter Try.func39, Try.ntmps39
  go_wp2_with fail
  go_loopw [10, 1, 6] (fun iv cv ov wr => ∃ (D : List Nat) (cur : Int), iv = .int .i64 (D.length : Int) ∧ cv = .int .i64 cur ∧ ownI w.heap.size wr ov (D.map fun (n : Nat) => (n : Int)) ∧ ChS nx r P p D cur ∧ Below w.heap.size w wr) (fun iv _ _ _ => P + 1 - (intOf iv).toNat)
  case atStart => exact ⟨[], _, rfl, rfl, ownI.nil, ChS.start hp, Below.refl _ _⟩
  case round =>
    obtain ⟨wr1, rfl⟩ : ∃ W1 : World, W1 = wr := ⟨_, rfl⟩
    obtain ⟨D, cur, rfl, rfl, hown, hch, hb⟩ := hrel
    have hlen := hch.len
    have j1 : (D.length : Int) < (P : Int) + 1 := by omega
    by_cases hcur : cur = -1
    · subst hcur
      have HH := Lib.hid (And.intro hown (And.intro hch hb))
      clear hown hch hb
      go_wp2_with fail
      refine bodyPost_ret (by first | (simp [results, Try.results39, go_sem]; done) | (simp [results, Try.results39, go_sem]; rfl)) rfl ?_
      obtain ⟨hown, hch, hb⟩ := HH.out
      exact ⟨_, D, rfl, hown, hch.len, hch.done, hb⟩
    · obtain ⟨c, hcP, rfl⟩ : ∃ c : Nat, c < P ∧ cur = (c : Int) := by
        rcases hch.up with ⟨h1, -⟩ | ⟨c, hc, e, -⟩
        · exact (hcur h1).elim
        · exact ⟨c, hc, e⟩
      have hn := (hch.next HP.out).1
      obtain ⟨vo, oc, rfl, -⟩ := hown.slice
      rw [List.length_map] at hown
      have j2 : (0 : Int) ≤ (c : Int) := by omega
      have j3 : (c : Int) < (P : Int) := by omega
      have hbA : Below wr1.heap.size wr1 (wr1.alloc (.cells #[.int .i64 (c : Int)] 3)) := (Below.refl _ _).alloc (Nat.le_refl _) _
      have hoA := hown.below hbA
      have hle : w.heap.size ≤ (wr1.alloc (.cells #[.int .i64 (c : Int)] 3)).heap.size := by have := hb.size; simp; omega
      have hz : (wr1.alloc (.cells #[.int .i64 (c : Int)] 3)).heap.size = wr1.heap.size + 1 := by simp
      have hc0 : (wr1.alloc (.cells #[.int .i64 (c : Int)] 3)).cell? ⟨wr1.heap.size, 0, none⟩ = some (.int .i64 (c : Int)) := by go_cell
      have hb2 := Below.chain hb hbA
      have hlm : (D.map fun (n : Nat) => (n : Int)).length ≤ 1200000 := by rw [List.length_map]; omega
      have HOA := Lib.hid hoA; have HLE := Lib.hid hle; have HC0 := Lib.hid hc0; have HB2 := Lib.hid hb2; have HN := Lib.hid hn; have HLM := Lib.hid hlm; have HLEN := Lib.hid hlen; have HCP := Lib.hid hcP
      have HBN := Lib.hid (And.intro hb hz)
      clear hown hch hb hbA hoA hle hz hc0 hb2 hn hlm hlen hcur hcP
      go_wp2_with (first | (at_builtin; refine wpList_push (lo := w.heap.size) (l := D.map fun (n : Nat) => (n : Int)) rfl (.tmp 23) (.tmp 25) rfl (by simp [Act.eval, Act.put]) HOA.out HLM.out HLE.out wr1.heap.size (c : Int) (by simp [Act.eval, Act.put]) HC0.out ?_; intro g9 cap n9 w9 hn9 h9 hg9 hgx; clear hgx; obtain rfl : n9 = D.length + 1 := hn9.trans (by rw [List.length_map]); clear hn9; refine Hid.out ?_) | fail)
      have hb9 : Below w.heap.size w w9 := by
        have h := But.of_grown (S := fun b => (Value.slice vo D.length oc).ownBlock = some b) hg9 (fun _ e => e)
        exact HB2.out.trans ⟨h.os, h.tape, h.output, h.size, fun k hk => h.block k (by have := HLE.out; omega) (fun e => by have := (HOA.out.lt e).1; omega)⟩
      have z0 := (hb9.cell (p := ⟨g, c, none⟩) HG.out).trans (HC.out c HCP.out)
      have HB9 := Lib.hid hb9; have H9 := Lib.hid h9
      clear hb9 hg9 h9
      refine Lib.hid ?_
      go_wp2_with fail
      go_roundw
      case rel =>
        refine ⟨D ++ [c], idF nx r c, by rw [List.length_append]; go_num, rfl, ?_, HN.out, HB9.out⟩
        rw [List.map_append]; exact H9.out
      case measure => have := HLEN.out; simp [intOf]; omega
theorem good_any {A : Nat → Prop} (n x : Int) (ao : Option Addr) (c : Nat) (E : List Ed) (w : World) (hr : ERow A w ao c E) :
    Calls Try.prog 38 #[.agg #[.int .i64 n, .int .i64 x, .slice ao E.length c]] w fun e w' => e = .returned (.bool (fewG n E && decide (ckG n x E = 0))) ∧ Below w.heap.size w w' := by
  have hA : Below w.heap.size w (w.alloc (Obj.cells #[.int .i64 n, .int .i64 x, .slice ao E.length c] 24)) := (Below.refl _ _).alloc (Nat.le_refl _) _
  have hX := GBx.new w n x ao E.length c
  have KF := Lib.hid (few_any n x ao c E (w.alloc (Obj.cells #[.int .i64 n, .int .i64 x, .slice ao E.length c] 24)))
  have CC := fun W hW => refCheck_any n x ao c E W (hr.keep (B := A) (But.of_below (S := fun _ => False) (w' := W) hW) (fun _ h _ => ⟨id, h⟩))
  have KC := Lib.hid CC; have HA := Lib.hid hA; have HX := Lib.hid hX
  obtain ⟨y0, y1, y2, y3⟩ := hX
  clear hr hA CC
  generalize fewG n E = fw at *
  obtain ⟨K, hK⟩ : ∃ K, ckG n x E = K := ⟨_, rfl⟩
  rw [hK] at KC ⊢
  clear hK
  have t1 : ((K : Int) == 0) = decide (K = 0) := by rw [Bool.eq_iff_iff]; simp
  cases fw with
  | false =>
    go_enter Try.func38, Try.ntmps38
    go_wp2_with (first | (go_at_call 13; refine (KF.out).mono ?_; rintro e w1 ⟨rfl, hb⟩; refine Hid.out ?_) | fail)
    have HB := Lib.hid (Below.chain HA.out hb)
    clear hb
    refine Lib.hid ?_
    go_wp2_with fail
    go_ret
    exact ⟨by simp, HB.out⟩
  | true =>
    go_enter Try.func38, Try.ntmps38
    go_wp2_with (first | (go_at_call 13; refine (KF.out).mono ?_; rintro e w1 ⟨rfl, hb⟩; refine Hid.out ?_) | fail)
    have HB := Lib.hid (Below.chain HA.out hb)
    obtain ⟨y0, y1, y2, y3⟩ := HX.out.below hb
    clear hb
    refine Lib.hid ?_
    go_wp2_with (first | (go_at_call 22; refine (KC.out _ HB.out).mono ?_; rintro e w2 ⟨rfl, hb⟩; refine Hid.out ?_) | fail)
    have HB2 := Lib.hid (Below.chain HB.out hb)
    clear hb
    refine Lib.hid ?_
    go_wp2_with fail
    go_ret
    exact ⟨by simp, HB2.out⟩
end Go.Proofs.Ytjjkabgbcflipaa
namespace Go.Proofs.Ytjjkabgbcflipaa
open Go Go.Proofs Go.RowKit Go.Shelf GM

attribute [local go_sem] Oper.semAt_some
set_option maxRecDepth 100000 in
set_option maxHeartbeats 1000000 in
theorem wpList_slice_ed {ops : Array Oper} {rest : List Oper} {op : Oper} {a : Act} {W : World} {Q : Exit → Act → World → Prop} (y : Operand) (hgd : op.guard = none) (ho : op.op = .buildSlice 22 1 #[(0, y)])
    (d : Ed) (hy : a.eval y = .agg d.cs) (h : wpList Try.prog ops Q rest (a.put op.dst (.slice (some ⟨W.heap.size, 0, none⟩) 1 1)) (W.alloc (.cells d.cs 55))) :
    wpList Try.prog ops Q (op :: rest) a W :=
  wpList_plain hgd fun _ hK => by
    obtain ⟨f, t, a2, a3, a4, a5, a6, a7, a8, s9, a10, o11, n11, c11, a12, s13, a14, o15, n15, c15, a16, o17, n17, c17, o18, n18, c18, o19, n19, c19, o20, n20, c20⟩ := d
    unfold Ed.cs at hy h
    unfold Oper.wp execOp
    simp only [ho, List.map_toArray, List.map_cons, List.map_nil, hy]
    trace_state
    go_simp
    trace_state
    exact hK _ _ h
end Go.Proofs.Ytjjkabgbcflipaa
namespace Go.Proofs.Ytjjkabgbcflipaa
open Go Go.Proofs Go.RowKit Go.Shelf GM

attribute [local go_sem] Oper.semAt_some

theorem contains_ir {A : Nat → Prop} {W : World} {v : Value} {D : List Nat} (h : IR A W v D) (hl : D.length ≤ 100000) (z : Nat) :
    Calls Try.prog 40 #[v, .int .i64 (z : Int)] W fun e w' => e = .returned (.bool (decide (z ∈ D))) ∧ Below W.heap.size W w' := by
  obtain ⟨ao, c, rfl, h⟩ := h
  rcases h with h | ⟨b, o, rfl, -, -, h⟩
  · subst h
    refine (Try.slices_Contains_int_empty ao c (z : Int) W).mono ?_
    rintro e w' ⟨rfl, rfl⟩
    exact ⟨by simp, Below.refl _ _⟩
  · refine (Try.slices_Contains_int b o D.length c (D.map fun (n : Nat) => (n : Int)) (z : Int) W (by simp) (by omega) (fun j hj => ?_)).mono ?_
    · rw [List.length_map] at hj
      rw [h j hj, List.getD_eq_getElem?_getD, List.getElem?_map, List.getElem?_eq_getElem hj]
      unfold atD
      rw [List.getD_eq_getElem?_getD, List.getElem?_eq_getElem hj]
      rfl
    · rintro e w' ⟨rfl, rfl⟩
      refine ⟨?_, Below.refl _ _⟩
      rw [List.take_of_length_le (by simp)]
      congr 2
      rw [Bool.eq_iff_iff, List.contains_iff_mem, decide_eq_true_iff, List.mem_map]
      exact ⟨fun ⟨a, h1, h2⟩ => by have e : a = z := by omega
                                   rwa [← e], fun h => ⟨z, h, rfl⟩⟩
theorem IRow.shape {W : World} {v : Value} {P : Nat} {f : Nat → Int} (h : IRow W v ((List.range P).map f)) (hP : 0 < P) : ∃ g c, v = .slice (some ⟨g, 0, none⟩) P c ∧ g < W.heap.size ∧ ∀ k, k < P → W.cell? ⟨g, k, none⟩ = some (.int .i64 (f k)) := by
  obtain ⟨ao, c, rfl, h⟩ := h
  have hl : ((List.range P).map f).length = P := by simp
  rcases h with h | ⟨g, rfl, h1, h2⟩
  · rw [h] at hl; simp at hl; omega
  · refine ⟨g, c, by rw [hl], h1, fun k hk => ?_⟩
    rw [h2 k (by rw [hl]; exact hk), List.getD_eq_getElem?_getD, List.getElem?_map, List.getElem?_range hk]; rfl
/-- The edges that neither leave nor enter a point. -/
def cutE (v : Nat) (E : List Ed) : List Ed := E.filter fun d => (d.t != (v : Int)) && (d.f != (v : Int))
theorem cutE_nil (v : Nat) : cutE v [] = [] := rfl
theorem cutE_yes {v : Nat} {E : List Ed} {d : Ed} (h : ((d.t != (v : Int)) && (d.f != (v : Int))) = true) : cutE v (E ++ [d]) = cutE v E ++ [d] := by
  unfold cutE; rw [List.filter_append, List.filter_cons, if_pos h, List.filter_nil]
theorem cutE_no {v : Nat} {E : List Ed} {d : Ed} (h : ((d.t != (v : Int)) && (d.f != (v : Int))) = false) : cutE v (E ++ [d]) = cutE v E := by
  unfold cutE; rw [List.filter_append, List.filter_cons, if_neg (by rw [h]; simp), List.filter_nil, List.append_nil]
theorem cutE_le (v : Nat) (E : List Ed) : (cutE v E).length ≤ E.length := List.length_filter_le _ _
theorem ckG_of {P : Nat} {x : Int} {E : List Ed} (h1 : 1 ≤ P) (h2 : P ≤ 512) (h3 : isPt P x = true) (h4 : E.length ≤ 1024) (h5 : ∀ d ∈ E, isPt P d.f = true ∧ isPt P d.t = true) : ckG P x E = 0 := by
  unfold ckG
  rw [if_neg (by omega), h3, if_neg (by simp), if_neg (by omega), if_pos]
  unfold ckEs
  rw [List.all_eq_true]
  intro d hd
  rw [(h5 d hd).1, (h5 d hd).2]; rfl
theorem ckG_mem {P : Nat} {x : Int} {E : List Ed} (h : ckG P x E = 0) {d : Ed} (hd : d ∈ E) : isPt P d.f = true ∧ isPt P d.t = true := by
  obtain ⟨-, -, -, hp⟩ := ckG_ok h
  obtain ⟨j, hj, rfl⟩ := List.getElem_of_mem hd
  have := hp j hj
  rwa [edD_eq hj] at this
theorem ckG_cut {P : Nat} {x : Int} {E : List Ed} (v : Nat) (h : ckG P x E = 0) : ckG P x (cutE v E) = 0 := by
  obtain ⟨h1, h2, h3, -⟩ := ckG_ok h
  obtain ⟨-, -, h5⟩ := ckG_pos h
  exact ckG_of h1 h2 h5 (Nat.le_trans (cutE_le v E) h3) (fun d hd => ckG_mem h (List.mem_filter.1 hd).1)
theorem nxF_mem {P p q : Nat} {E : List Ed} (hp : p < P) : q ∈ nxF P E p ↔ ∃ d ∈ E, d.f = (p : Int) ∧ d.t.toNat = q := by
  rw [nx_mem (fun d => d.f) (fun d => d.t) E hp]
  constructor
  · rintro ⟨j, hj, h1, h2⟩
    exact ⟨edD E j, edD_mem hj, h1, h2⟩
  · rintro ⟨d, hd, h1, h2⟩
    obtain ⟨j, hj, rfl⟩ := List.getElem_of_mem hd
    exact ⟨j, hj, by rw [edD_eq hj]; exact h1, by rw [edD_eq hj]; exact h2⟩
theorem nxF_src {P p q : Nat} {E : List Ed} (h : q ∈ nxF P E p) : p < P := by
  refine Nat.lt_of_not_le fun hb => ?_
  have : nxF P E p = [] := by unfold nxF nxt; rw [lsN_out _ _ (by omega)]; rfl
  rw [this] at h; simp at h
theorem cut_rch {P v : Nat} {x : Int} {E : List Ed} (h : ckG P x E = 0) (hv : v ≠ 0) (p : Nat) : Rch (nxF P (cutE v E)) (fun _ => False) 0 p ↔ Rch (nxF P E) (fun y => y = v) 0 p := by
  constructor
  · intro g
    induction g with
    | refl _ => exact .refl fun e => hv e.symm
    | @step b c h1 h2 h3 ih =>
      have hb := nxF_src h2
      obtain ⟨d, hd, e1, e2⟩ := (nxF_mem hb).1 h2
      obtain ⟨hd1, hd2⟩ := List.mem_filter.1 hd
      rw [Bool.and_eq_true, bne_iff_ne, bne_iff_ne] at hd2
      have := isPt_true (ckG_mem h hd1).2
      exact .step ih ((nxF_mem hb).2 ⟨d, hd1, e1, e2⟩) fun e => hd2.1 (by omega)
  · intro g
    induction g with
    | refl _ => exact .refl id
    | @step b c h1 h2 h3 ih =>
      have hb := nxF_src h2
      obtain ⟨d, hd, e1, e2⟩ := (nxF_mem hb).1 h2
      have h4 := isPt_true (ckG_mem h hd).2
      have h5 := h1.right
      refine .step ih ((nxF_mem hb).2 ⟨d, List.mem_filter.2 ⟨hd, ?_⟩, e1, e2⟩) id
      rw [Bool.and_eq_true, bne_iff_ne, bne_iff_ne]
      exact ⟨fun e => h3 (by omega), fun e => h5 (by omega)⟩
/-- A point is lost exactly if the other one dominates it. -/
theorem cut_dom {P v p : Nat} {x : Int} {E : List Ed} (h : ckG P x E = 0) (hp : Rch (nxF P E) (fun _ => False) 0 p) :
    (v = p ∨ Dm (nxF P E) 0 p v) ↔ ((¬ Rch (nxF P (cutE v E)) (fun _ => False) 0 p ∨ p = v) ∨ v = 0) := by
  by_cases hv : v = 0
  · subst hv
    exact ⟨fun _ => .inr rfl, fun _ => .inr ⟨hp, fun g => g.left rfl⟩⟩
  · rw [cut_rch h hv]
    constructor
    · rintro (e | ⟨-, g⟩)
      · exact .inl (.inr e.symm)
      · exact .inl (.inl g)
    · rintro ((g | e) | e)
      · exact .inr ⟨hp, g⟩
      · exact .inl e.symm
      · exact (hv e).elim
set_option maxRecDepth 100000 in
set_option maxHeartbeats 8000000 in
theorem graphCuts_walk {A : Nat → Prop} (n x : Int) (ao : Option Addr) (c : Nat) (E : List Ed) (a : Nat) (w : World) (hr : ERow A w ao c E) (ha : a < 256) :
    Calls Try.prog 10 #[.agg #[.int .i64 n, .int .i64 x, .slice ao E.length c], .int .u8 (a : Int)] w fun e w' => e = .returned (.bool true) ∧ Below w.heap.size w w' := by
  have hA : Below w.heap.size w (w.alloc (Obj.cells #[.int .i64 n, .int .i64 x, .slice ao E.length c] 24)) := (Below.refl _ _).alloc (Nat.le_refl _) _
  have hX := GBx.new w n x ao E.length c
  have HB := Lib.hid hA; have HX := Lib.hid hX
  have hR := fun W (hW : Below w.heap.size w W) => hr.keep (B := A) (But.of_below (S := fun _ => False) (w' := W) hW) (fun _ h _ => ⟨id, h⟩)
  have HR := Lib.hid hR
  have KF := Lib.hid (good_any n x ao c E (w.alloc (Obj.cells #[.int .i64 n, .int .i64 x, .slice ao E.length c] 24)) (hR _ hA))
  have KW := Lib.hid awake_any
  obtain ⟨y0, y1, y2, y3⟩ := hX
  clear hA hR
  cases hf : (fewG n E && decide (ckG n x E = 0)) with
  | false =>
    rw [hf] at KF
    go_enter Try.func10, Try.ntmps10
    go_wp2_with (first | (go_at_call 38; refine (KF.out).mono ?_; rintro e w1 ⟨rfl, hb⟩; refine Hid.out ?_) | fail)
    have HB1 := Lib.hid (Below.chain HB.out hb); clear hb HB
    refine Lib.hid ?_
    go_wp2_with (first | (go_at_call 14; refine (KW.out _).mono ?_; rintro e w2 ⟨rfl, hb⟩; refine Hid.out ?_) | fail)
    have HB2 := Lib.hid (Below.chain HB1.out hb); clear hb
    refine Lib.hid ?_
    go_wp2_with fail
    go_ret
    exact ⟨rfl, HB2.out⟩
  | true =>
    rw [hf] at KF
    rw [Bool.and_eq_true, decide_eq_true_iff] at hf
    have h0 := hf.2
    clear hf
    obtain ⟨hn1, hn2, hpx⟩ := ckG_pos h0
    obtain ⟨P, rfl⟩ := Int.eq_ofNat_of_zero_le (show 0 ≤ n by omega)
    obtain ⟨-, -, hlen, -⟩ := ckG_ok h0
    have hat : ∀ j, j < E.length → ∃ b o, ao = some ⟨b, o, none⟩ ∧ b < w.heap.size ∧ EdAt w b (o + j * 21) (edD E j) := fun j hj => by
      obtain ⟨b, o, e, -, h1, h2, -⟩ := hr.get j hj
      exact ⟨b, o, e, h1, h2⟩
    have HAT := Lib.hid hat; have H0 := Lib.hid h0; have HLEN := Lib.hid hlen
    clear hat h0 hr hpx
    go_enter Try.func10, Try.ntmps10
    go_wp2_with (first | (go_at_call 38; refine (KF.out).mono ?_; rintro e w1 ⟨rfl, hb⟩; refine Hid.out ?_) | fail)
    have hx1 := HX.out.below hb; clear HX; have HX := Lib.hid hx1
    have hb1 := Below.chain HB.out hb; clear HB; have HB := Lib.hid hb1
    obtain ⟨v, hv⟩ : ∃ v, a % P = v := ⟨_, rfl⟩
    have v1 : (a : Int).tmod (P : Int) = (v : Int) := by rw [Int.tmod_eq_emod_of_nonneg (by omega), ← hv]; push_cast; rfl
    have v2 : (P = 0) = False := by simp; omega
    have v4 : -2 ^ 63 ≤ (a : Int) ∧ (a : Int) < 2 ^ 63 := by omega
    have hz0 : (w1.alloc (Obj.cells #[.int .i64 (P : Int), .int .i64 x, nilS] 24)).heap.size = w1.heap.size + 1 := by simp
    have b0 : Below w1.heap.size w1 (w1.alloc (Obj.cells #[.int .i64 (P : Int), .int .i64 x, nilS] 24)) := (Below.refl _ _).alloc (Nat.le_refl _) _
    have hg0 := GBx.new w1 P x none 0 0
    have f0 : ∀ j, (w1.alloc (Obj.cells #[.int .i64 (P : Int), .int .i64 x, nilS] 24)).frozen? ⟨w1.heap.size, j, none⟩ = false := fun j => frozen_of_row _ _ j _ _ (heap_alloc_last _ _)
    have hxx := hx1.below b0
    have hb2 := Below.chain hb1 b0
    have HZ0 := Lib.hid hz0; have G0 := Lib.hid hg0; have F0 := Lib.hid f0; have HXX := Lib.hid hxx; have HB2 := Lib.hid hb2
    have HS1 : Hid (w.heap.size < w1.heap.size) := Lib.hid hx1.lt
    have HY := Lib.hid hx1
    clear hz0 b0 hg0 f0 hb hx1 hb1 hv HX HB KF hxx hb2 y0 y1 y2 y3
    obtain ⟨y0, y1, y2, y3⟩ := HY.out
    refine Lib.hid ?_
    go_wp2_with fail
    generalize (w1.alloc (Obj.cells #[.int .i64 (P : Int), .int .i64 x, nilS] 24)) = W0 at *
    obtain ⟨LS, hLS⟩ : ∃ LS, w1.heap.size = LS := ⟨_, rfl⟩
    rw [hLS] at HZ0 G0 F0 HS1 ⊢
    clear hLS y0 y1 y2 y3
    have hE0 : (0 : Int) ≤ (E.length : Int) := by omega
    go_loopw [36] (fun iv wr => ∃ (k : Nat) (vo : Option Addr) (vc : Nat), k ≤ E.length ∧ iv = .int .i64 (k : Int) ∧ EOwn (LS + 1) wr (.slice vo (cutE v (E.take k)).length vc) (cutE v (E.take k)) ∧ GBx wr LS P x vo (cutE v (E.take k)).length vc ∧ (∀ j, wr.frozen? ⟨LS, j, none⟩ = false) ∧ But (fun b => b = LS) W0 wr) (fun iv _ => E.length - (intOf iv).toNat)
    case atStart => exact ⟨0, none, 0, Nat.zero_le _, rfl, by rw [List.take_zero, cutE_nil]; exact EOwn.nil, by rw [List.take_zero, cutE_nil]; exact G0.out, F0.out, But.refl _ _⟩
    case round =>
      obtain ⟨wr1, rfl⟩ : ∃ W1 : World, W1 = wr := ⟨_, rfl⟩
      obtain ⟨k, vo, vc, hk, rfl, hown, hgb, hff, hB⟩ := hrel
      have hwz : LS + 1 ≤ wr1.heap.size := by have := hB.size; have := HZ0.out; omega
      by_cases hlt : k < E.length
      · obtain ⟨b, o, rfl, hbl, he⟩ := HAT.out k hlt
        have j1 : (k : Int) < (E.length : Int) := by omega
        have j0 : (0 : Int) ≤ (k : Int) := by omega
        have he2 : EdAt wr1 b (o + k * 21) (edD E k) := (he.below' HB2.out hbl).but hB (by have := HB2.out.size; omega) (by have := HS1.out; omega)
        have htk := edD_take hlt
        have hcl := cutE_le v (E.take k)
        rw [List.length_take] at hcl
        generalize edD E k = d at *
        have bA : Below wr1.heap.size wr1 (wr1.alloc (.cells d.cs 55)) := (Below.refl _ _).alloc (Nat.le_refl _) _
        have q5 := ed_box0 wr1 d; have q6 := ed_box1 wr1 d
        have hlk : k ≤ E.length := hk
        cases hd : ((d.t != (v : Int)) && (d.f != (v : Int))) with
        | false =>
          have hno := cutE_no (E := E.take k) hd
          rw [← htk] at hno
          have HH := Lib.hid (And.intro (hown.below bA) (And.intro (hgb.below bA) (And.intro (fun j => (bA.frozen (p := ⟨LS, j, none⟩) hwz).trans (hff j)) (hB.next bA)))); have HLT := Lib.hid hlt; have HNO := Lib.hid hno; have HE := Lib.hid he2
          clear hown hgb hff hB hlt he he2 htk hcl bA hbl hwz hlk hk hno
          cases ht : (d.t != (v : Int)) with
          | false =>
            go_wp2_with (first | (refine wpList_load_ed (.tmp 38) rfl rfl b (o + k * 21) (by simp [Act.eval, Act.put]) d HE.out ?_) | (refine wpList_store_ed (.tmp 8) (.tmp 39) rfl rfl rfl (by simp [Act.eval, Act.put]) d (by simp [Act.eval, Act.put]) ?_) | fail)
            go_roundw
            case rel =>
              obtain ⟨hown, hgb, hff, hB⟩ := HH.out
              exact ⟨k + 1, vo, vc, HLT.out, by go_num, by rw [HNO.out]; exact hown, by rw [HNO.out]; exact hgb, hff, hB⟩
            case measure => have := HLT.out; simp [intOf]; omega
          | true =>
            rw [ht, Bool.true_and] at hd
            go_wp2_with (first | (refine wpList_load_ed (.tmp 38) rfl rfl b (o + k * 21) (by simp [Act.eval, Act.put]) d HE.out ?_) | (refine wpList_store_ed (.tmp 8) (.tmp 39) rfl rfl rfl (by simp [Act.eval, Act.put]) d (by simp [Act.eval, Act.put]) ?_) | fail)
            go_roundw
            case rel =>
              obtain ⟨hown, hgb, hff, hB⟩ := HH.out
              exact ⟨k + 1, vo, vc, HLT.out, by go_num, by rw [HNO.out]; exact hown, by rw [HNO.out]; exact hgb, hff, hB⟩
            case measure => have := HLT.out; simp [intOf]; omega
        | true =>
          have hyes := cutE_yes (E := E.take k) hd
          rw [← htk] at hyes
          rw [Bool.and_eq_true] at hd
          obtain ⟨hd1, hd2⟩ := hd
          have bB : Below wr1.heap.size wr1 ((wr1.alloc (.cells d.cs 55)).alloc (.cells d.cs 55)) := bA.alloc (by simp) _
          have hzA : (wr1.alloc (.cells d.cs 55)).heap.size = wr1.heap.size + 1 := by simp
          have heB := EdAt.box (wr1.alloc (.cells d.cs 55)) d
          rw [hzA] at heB
          have heA := EdAt.box wr1 d
          have z2 := (bA.cell (p := ⟨LS, 2, none⟩) (by dsimp only; omega)).trans hgb.c2
          have z3 := (bB.frozen (p := ⟨LS, 2, none⟩) (by dsimp only; omega)).trans (hff 2)
          have z4 := (bB.cell (p := ⟨LS, 2, none⟩) (by dsimp only; omega)).trans hgb.c2
          have hoB := hown.below bB
          have hLE : LS + 1 ≤ ((wr1.alloc (.cells d.cs 55)).alloc (.cells d.cs 55)).heap.size := by have := bB.size; omega
          have HH := Lib.hid (And.intro hown (And.intro hgb (And.intro hff hB))); have HLT := Lib.hid hlt; have HYES := Lib.hid hyes; have HE := Lib.hid he2; have HEA := Lib.hid heA; have HEB := Lib.hid heB; have HOB := Lib.hid hoB; have HLE := Lib.hid hLE; have BB := Lib.hid bB; have Z3 := Lib.hid z3; have Z4 := Lib.hid z4
          have HCL : Hid ((cutE v (E.take k)).length ≤ 100000) := Lib.hid (by omega)
          clear hown hgb hff hB hlt he he2 htk hcl bA hbl hlk hk hyes bB hzA heB heA hoB hLE z3 z4
          go_wp2_with (first | (refine wpList_load_ed (.tmp 38) rfl rfl b (o + k * 21) (by simp [Act.eval, Act.put]) d HE.out ?_) | (refine wpList_store_ed (.tmp 8) (.tmp 39) rfl rfl rfl (by simp [Act.eval, Act.put]) d (by simp [Act.eval, Act.put]) ?_) | (refine wpList_load_ed (.tmp 8) rfl rfl wr1.heap.size 0 (by simp [Act.eval, Act.put]) d HEA.out ?_) | (refine wpList_slice_ed (.tmp 52) rfl rfl d (by simp [Act.eval, Act.put]) ?_) |
            (at_builtin; refine wpList_pushE (lo := LS + 1) (L := cutE v (E.take k)) rfl (.tmp 51) (.tmp 53) rfl (by simp [Act.eval, Act.put]) HOB.out HCL.out HLE.out (wr1.heap.size + 1) (by simp [Act.eval, Act.put]) HEB.out ?_; intro g9 cap n9 w9 hn9 h9 hg9 hgx; refine Hid.out ?_) | fail)
          have hln : (cutE v (E.take (k + 1))).length = (cutE v (E.take k)).length + 1 := by rw [HYES.out, List.length_append]; rfl
          subst hn9
          have HLN := Lib.hid hln
          clear hln
          have b9 := But.of_grown (S := fun b => (Value.slice vo (cutE v (E.take k)).length vc).ownBlock = some b) hg9 (fun _ e => e)
          have hno : ¬ (Value.slice vo (cutE v (E.take k)).length vc).ownBlock = some LS := fun e => by have := (HOB.out.lt e).1; omega
          have hgn : g9 ≠ LS := hgx.elim (fun q => fun e => hno (by rw [q, e])) (fun q => by have := HLE.out; omega)
          have s2 := (b9.cell (p := ⟨LS, 2, none⟩) (by have := HLE.out; dsimp only; omega) hno).trans Z4.out
          have s3 := (b9.frozen (p := ⟨LS, 2, none⟩) (by have := HLE.out; dsimp only; omega) hno).trans Z3.out
          have H9 := Lib.hid h9; have B9 := Lib.hid b9; have HNO := Lib.hid hno; have HGN := Lib.hid hgn
          clear h9 b9 hg9 hno hgx hgn z2
          refine Lib.hid ?_
          go_wp2_with fail
          go_roundw
          case rel =>
            obtain ⟨hown, hgb, hff, hB⟩ := HH.out
            have hlt2 := HLE.out
            have hb9 : But (fun b => b = LS) W0 (w9.setCell ⟨LS, 2, none⟩ (.slice (some ⟨g9, 0, none⟩) ((cutE v (E.take k)).length + 1) cap)) :=
              ((hB.next BB.out).trans B9.out (fun k' hk' e => by have := (HOB.out.lt e).1; have := HZ0.out; omega)).set _ _ (fun _ => rfl)
            have hbs : But (fun b => b = LS) w9 (w9.setCell ⟨LS, 2, none⟩ (.slice (some ⟨g9, 0, none⟩) ((cutE v (E.take k)).length + 1) cap)) := (But.refl _ _).set _ _ (fun _ => rfl)
            refine ⟨k + 1, some ⟨g9, 0, none⟩, cap, HLT.out, by go_num, ?_, ⟨?_, ?_, by rw [HLN.out]; exact cellSet s2 _, by rw [World.size_setCell]; have := B9.out.size; omega⟩, fun j => ?_, hb9⟩
            · have h := H9.out
              rw [← HYES.out] at h
              rw [HLN.out]
              exact h.but hbs (fun b e q => by cases e; exact HGN.out q)
            · rw [World.cell?_setCell_other (h := by intro q; cases q)]
              exact (B9.out.cell (p := ⟨LS, 0, none⟩) (by dsimp only; omega) HNO.out).trans ((BB.out.cell (p := ⟨LS, 0, none⟩) (by dsimp only; omega)).trans hgb.c0)
            · rw [World.cell?_setCell_other (h := by intro q; cases q)]
              exact (B9.out.cell (p := ⟨LS, 1, none⟩) (by dsimp only; omega) HNO.out).trans ((BB.out.cell (p := ⟨LS, 1, none⟩) (by dsimp only; omega)).trans hgb.c1)
            · rw [World.frozen?_setCell]
              exact (B9.out.frozen (p := ⟨LS, j, none⟩) (by dsimp only; omega) HNO.out).trans ((BB.out.frozen (p := ⟨LS, j, none⟩) (by dsimp only; omega)).trans (hff j))
          case measure => have := HLT.out; simp [intOf]; omega
      · have hkm : k = E.length := by omega
        subst hkm
        rw [List.take_length] at hown hgb
        have hgx := HXX.out.but hB (by have := HS1.out; omega)
        have hbw : Below w.heap.size w wr1 := HB2.out.trans ⟨hB.os, hB.tape, hB.output, hB.size, fun j hj => hB.block j (by have := HB2.out.size; omega) (by have := HS1.out; omega)⟩
        have hrow := hown.row
        have hc0 := ckG_cut v H0.out
        have HGB := Lib.hid hgb; have HGX := Lib.hid hgx; have HBW := Lib.hid hbw; have HC0 := Lib.hid hc0; have HROW := Lib.hid hrow
        obtain ⟨y0, y1, y2, y3⟩ := hgx
        obtain ⟨g0, g1, g2, g3⟩ := hgb
        clear hown hff hB hbw hrow hc0 HAT G0 F0 HXX HB2 HZ0 hwz hlt
        go_wp2_with fail
        have k1 := dom_u (P : Int) x ao c E wr1 (HR.out _ HBW.out)
        unfold RDomsQ at k1
        rw [H0.out] at k1
        have K1 := Lib.hid k1
        clear k1
        go_wp2_with (first | (go_at_call 28; refine (K1.out).mono ?_; rintro e w2 ⟨hb, vd, rfl, hd⟩; refine Hid.out ?_) | fail)
        unfold domL at hd
        rw [if_pos H0.out, Int.toNat_natCast] at hd
        have hb1 := Below.chain HBW.out hb
        obtain ⟨y0, y1, y2, y3⟩ := HGX.out.below hb
        have hrow2 := HROW.out.keep (B := fun b => LS + 1 ≤ b) (But.of_below (S := fun _ => False) hb) (fun _ h _ => ⟨id, h⟩)
        have HG2 := Lib.hid (HGB.out.below hb); have HX2 := Lib.hid (HGX.out.below hb); have HB1 := Lib.hid hb1; have HD2 := Lib.hid hd; have HROW2 := Lib.hid hrow2
        have rN : rchN (P : Int) x E 0 = P := by unfold rchN; rw [if_pos ⟨H0.out, isPt_of ⟨by omega, by omega⟩⟩, Int.toNat_natCast]
        have rE : rchE (P : Int) x E 0 = 0 := by unfold rchE; rw [if_pos H0.out, if_pos (isPt_of ⟨by omega, by omega⟩)]
        have rN2 : rchN (P : Int) x (cutE v E) 0 = P := by unfold rchN; rw [if_pos ⟨HC0.out, isPt_of ⟨by omega, by omega⟩⟩, Int.toNat_natCast]
        have rE2 : rchE (P : Int) x (cutE v E) 0 = 0 := by unfold rchE; rw [if_pos HC0.out, if_pos (isPt_of ⟨by omega, by omega⟩)]
        have k2 := reach_u (P : Int) x ao c E w2 (HR.out _ hb1) 0
        rw [rN, rE] at k2
        have K2 := Lib.hid k2; have RN2 := Lib.hid rN2; have RE2 := Lib.hid rE2
        clear hb hd hb1 hrow2 k2 K1 g0 g1 g2 g3 rN rE rN2 rE2
        refine Lib.hid ?_
        go_wp2_with (first | (go_at_call 19; refine (K2.out).mono ?_; rintro e w3 ⟨hb, p2, c2, rfl, hr2⟩; refine Hid.out ?_) | fail)
        obtain ⟨g0, g1, g2, g3⟩ := HG2.out.below hb
        have k3 := reach_u (P : Int) x vo vc (cutE v E) w3 (HROW2.out.keep (B := fun b => LS + 1 ≤ b) (But.of_below (S := fun _ => False) hb) (fun _ h _ => ⟨id, h⟩)) 0
        rw [RN2.out, RE2.out] at k3
        have K3 := Lib.hid k3
        have HB3 := Lib.hid (Below.chain HB1.out hb); have HX3 := Lib.hid (HX2.out.below hb); have HD3 := Lib.hid (HD2.out.below hb); have HR2 := Lib.hid hr2
        clear k3 hb hr2 K2 y0 y1 y2 y3
        refine Lib.hid ?_
        go_wp2_with (first | (go_at_call 19; refine (K3.out).mono ?_; rintro e w4 ⟨hb, p3, c3, rfl, hr3⟩; refine Hid.out ?_) | fail)
        have HB4 := Lib.hid (Below.chain HB3.out hb); have HX4 := Lib.hid (HX3.out.below hb)
        obtain ⟨ga, rfl, ha1, ha2⟩ : ∃ ga, p2 = some ⟨ga, 0, none⟩ ∧ ga < w4.heap.size ∧ ∀ q, q < P → w4.cell? ⟨ga, q, none⟩ = some (.bool (rchB (P : Int) E 0 q)) := by
          rcases HR2.out.below hb with h | h
          · omega
          · exact h
        obtain ⟨gl, rfl, hl1, hl2⟩ : ∃ gl, p3 = some ⟨gl, 0, none⟩ ∧ gl < w4.heap.size ∧ ∀ q, q < P → w4.cell? ⟨gl, q, none⟩ = some (.bool (rchB (P : Int) (cutE v E) 0 q)) := by
          rcases hr3 with h | h
          · omega
          · exact h
        have hd4 := HD3.out.below hb
        obtain ⟨gd, dc, rfl, hd1, hd2⟩ := hd4.shape (by omega)
        have HD4 := Lib.hid hd4; have HA1 := Lib.hid (And.intro ha1 ha2); have HL1 := Lib.hid (And.intro hl1 hl2); have HDD := Lib.hid (And.intro hd1 hd2)
        obtain ⟨y0, y1, y2, y3⟩ := HX4.out
        clear hb hr3 hd4 ha1 ha2 hl1 hl2 hd1 hd2 K3 g0 g1 g2 g3
        have hlt1 : ∀ q, Rch (nxF P E) (fun _ => False) 0 q → q < P := fun q g => rch_lt H0.out (by omega) g
        have HLT1 := Lib.hid hlt1
        clear hlt1
        refine Lib.hid ?_
        go_wp2_with fail
        go_loopw [101] (fun iv wr => ∃ (p : Nat), p ≤ P ∧ iv = .int .i64 (p : Int) ∧ Below w4.heap.size w4 wr) (fun iv _ => P - (intOf iv).toNat)
        case atStart => exact ⟨0, Nat.zero_le _, rfl, Below.refl _ _⟩
        case round =>
          clear y0 y1 y2 y3
          obtain ⟨wr5, rfl⟩ : ∃ W1 : World, W1 = wr := ⟨_, rfl⟩
          obtain ⟨p, hp, rfl, hb5⟩ := hrel
          by_cases hlt : p < P
          · have j1 : (p : Int) < (P : Int) := by omega
            have j0 : (0 : Int) ≤ (p : Int) := by omega
            have z1 := (hb5.cell (p := ⟨ga, p, none⟩) HA1.out.1).trans (HA1.out.2 p hlt)
            have z2 := (hb5.cell (p := ⟨gl, p, none⟩) HL1.out.1).trans (HL1.out.2 p hlt)
            have z3 := (hb5.cell (p := ⟨gd, p, none⟩) HDD.out.1).trans (HDD.out.2 p hlt)
            have hd5 := HD4.out.below hb5
            have h2P : P ≤ 512 := by omega
            cases hal : rchB (P : Int) E 0 p with
            | false =>
              have hno : ¬ Rch (nxF P E) (fun _ => False) 0 p := fun g => by
                have := (rchB_iff (P : Int) E 0 p).2 (by rw [Int.toNat_natCast]; exact g)
                rw [hal] at this; cases this
              have hid : idF (nxF P E) 0 p = -1 := idF_none (fun e _ g => hno g.1)
              rw [hal] at z1
              rw [hid] at z3
              have HB5 := Lib.hid hb5; have HLT := Lib.hid hlt
              clear hb5 hd5 hno hid hal hlt
              go_wp2_with fail
              go_roundw
              case rel => exact ⟨p + 1, HLT.out, by go_num, HB5.out⟩
              case measure => have := HLT.out; simp [intOf]; omega
            | true =>
              have hyes : Rch (nxF P E) (fun _ => False) 0 p := by
                have := (rchB_iff (P : Int) E 0 p).1 hal
                rwa [Int.toNat_natCast] at this
              have hcd := cut_dom (v := v) H0.out hyes
              rw [hal] at z1
              have hB2 : (rchB (P : Int) (cutE v E) 0 p = true) ↔ Rch (nxF P (cutE v E)) (fun _ => False) 0 p := by
                have := rchB_iff (P : Int) (cutE v E) 0 p
                rwa [Int.toNat_natCast] at this
              rw [← hB2] at hcd
              have k6 := chain_any HLT1.out hlt (by omega) _ wr5 hd5
              have K6 := Lib.hid k6; have HCD := Lib.hid hcd; have HB5 := Lib.hid hb5; have HLT := Lib.hid hlt
              clear k6 hcd hB2 hyes hal hb5 hd5 hlt
              generalize rchB (P : Int) (cutE v E) 0 p = lf at *
              go_wp2_with (first | (go_at_call 39; refine (K6.out).mono ?_; rintro e w6 ⟨u, D, rfl, hu, hDl, hDm, hb⟩; refine Hid.out ?_) | fail)
              have hir := IR.of_own (A := fun _ => True) hu (fun _ _ => trivial)
              have hco := contains_ir hir (by omega) v
              have hin : decide (v ∈ D) = (!lf || decide (p = v) || decide (v = 0)) := by
                rw [Bool.eq_iff_iff, decide_eq_true_iff, hDm v, HCD.out]
                simp
              rw [hin] at hco
              have HCO := Lib.hid hco; have HB6 := Lib.hid (Below.chain HB5.out hb)
              have z2' := (hb.cell (p := ⟨gl, p, none⟩) (by have := HB5.out.size; have := HL1.out.1; dsimp only; omega)).trans z2
              obtain ⟨uo, uc, rfl⟩ := hir.slice
              clear hco hin hir hu hDm hDl hb z1 z2 z3 K6
              generalize D.length = ul at *
              refine Lib.hid ?_
              cases lf with
              | false =>
                simp only [Bool.not_false, Bool.true_or] at HCO
                go_wp2_with (first | (go_at_call 40; refine (HCO.out).mono ?_; rintro e w7 ⟨rfl, hb⟩; refine Hid.out ?_) | fail)
                have HB7 := Lib.hid (Below.chain HB6.out hb)
                clear hb
                refine Lib.hid ?_
                go_wp2_with fail
                go_roundw
                case rel => exact ⟨p + 1, HLT.out, by go_num, HB7.out⟩
                case measure => have := HLT.out; simp [intOf]; omega
              | true =>
                simp only [Bool.not_true, Bool.false_or] at HCO
                by_cases hpv : p = v
                · have t1 : ((p : Int) == (v : Int)) = true := by rw [beq_iff_eq]; omega
                  rw [decide_eq_true hpv, Bool.true_or] at HCO
                  clear hpv
                  go_wp2_with (first | (go_at_call 40; refine (HCO.out).mono ?_; rintro e w7 ⟨rfl, hb⟩; refine Hid.out ?_) | fail)
                  have HB7 := Lib.hid (Below.chain HB6.out hb)
                  clear hb
                  refine Lib.hid ?_
                  go_wp2_with fail
                  go_roundw
                  case rel => exact ⟨p + 1, HLT.out, by go_num, HB7.out⟩
                  case measure => have := HLT.out; simp [intOf]; omega
                · have t1 : ((p : Int) == (v : Int)) = false := by rw [beq_eq_false_iff_ne]; omega
                  rw [decide_eq_false hpv, Bool.false_or] at HCO
                  clear hpv
                  have t2 : ((v : Int) == 0) = decide (v = 0) := by rw [Bool.eq_iff_iff, beq_iff_eq, decide_eq_true_iff]; omega
                  generalize decide (v = 0) = vz at *
                  go_wp2_with (first | (go_at_call 40; refine (HCO.out).mono ?_; rintro e w7 ⟨rfl, hb⟩; refine Hid.out ?_) | fail)
                  have HB7 := Lib.hid (Below.chain HB6.out hb)
                  have t3 : (vz != vz) = false := by simp
                  clear hb
                  refine Lib.hid ?_
                  go_wp2_with fail
                  go_roundw
                  case rel => exact ⟨p + 1, HLT.out, by go_num, HB7.out⟩
                  case measure => have := HLT.out; simp [intOf]; omega
          · have hpm : p = P := by omega
            subst hpm
            have HB5 := Lib.hid (Below.chain HB4.out hb5)
            clear hb5
            go_wp2_with (first | (go_at_call 14; refine (KW.out _).mono ?_; rintro e w7 ⟨rfl, hb⟩; refine Hid.out ?_) | fail)
            have HB7 := Lib.hid (Below.chain HB5.out hb)
            clear hb
            refine Lib.hid ?_
            go_wp2_with fail
            go_ret
            exact ⟨rfl, HB7.out⟩
end Go.Proofs.Ytjjkabgbcflipaa
