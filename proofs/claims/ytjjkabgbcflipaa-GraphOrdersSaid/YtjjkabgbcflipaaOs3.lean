import Derived.Test.YtjjkabgbcflipaaOs2
import Derived.Test.YtjjkabgbcflipaaOs1
set_option linter.unusedSimpArgs false
set_option linter.unusedVariables false
namespace Go.Proofs.Ytjjkabgbcflipaa
open Go Go.Proofs Go.RowKit Go.Shelf GM

attribute [local go_sem] Oper.semAt_some

theorem idF_cases {nx : Nat → List Nat} {r P q : Nat} (hP : ∀ x, Rch nx (fun _ => False) r x → x < P) (hq : q < P) : (idF nx r q = -1 ∧ ∀ e, e ≠ q → ¬ Dm nx r q e) ∨ ∃ s : Nat, s < P ∧ idF nx r q = (s : Int) ∧ IsId nx r q s := by
  classical
  rcases immF_id (dom := fun x e => decide (Dm nx r x e)) (P := P) (q := q) (fun x e _ _ => by simp) hP hq with ⟨-, h⟩ | ⟨p, hp, -, h⟩
  · exact .inl ⟨idF_none h, h⟩
  · exact .inr ⟨p, hp, idF_some h, h⟩
/-- Where a chain stands: what it has, and where it goes on. -/
structure ChS (nx : Nat → List Nat) (r P p : Nat) (D : List Nat) (cur : Int) : Prop where
  nd : D.Nodup
  lt : ∀ d ∈ D, d < P
  sub : ∀ d ∈ D, d = p ∨ Dm nx r p d
  up : (cur = -1 ∧ p ∈ D ∧ ∀ d, Dm nx r p d → d ∈ D) ∨ ∃ c : Nat, c < P ∧ cur = (c : Int) ∧ c ∉ D ∧ (c = p ∨ Dm nx r p c) ∧ (∀ d ∈ D, Dm nx r d c) ∧ (∀ d, Dm nx r p d → d ∈ D ∨ Dm nx r c d) ∧ (p ∈ D ∨ c = p)
theorem ChS.start {nx : Nat → List Nat} {r P p : Nat} (hp : p < P) : ChS nx r P p [] (p : Int) :=
  ⟨by simp, by simp, by simp, .inr ⟨p, hp, rfl, by simp, .inl rfl, by simp, fun d h => .inr h, .inr rfl⟩⟩
theorem ChS.next {nx : Nat → List Nat} {r P p c : Nat} {D : List Nat} (hP : ∀ x, Rch nx (fun _ => False) r x → x < P) (h : ChS nx r P p D (c : Int)) : ChS nx r P p (D ++ [c]) (idF nx r c) ∧ c < P := by
  rcases h.up with ⟨h1, -⟩ | ⟨c', hc, e, h1, h2, h3, h4, h5⟩
  · omega
  · obtain rfl : c = c' := by omega
    refine ⟨⟨?_, ?_, ?_, ?_⟩, hc⟩
    · rw [List.nodup_append]
      exact ⟨h.nd, by simp, fun a ha b hb q => by rw [List.mem_singleton] at hb; rw [q, hb] at ha; exact h1 ha⟩
    · intro d hd
      rcases List.mem_append.1 hd with hd | hd
      · exact h.lt d hd
      · rw [List.mem_singleton] at hd; subst hd; exact hc
    · intro d hd
      rcases List.mem_append.1 hd with hd | hd
      · exact h.sub d hd
      · rw [List.mem_singleton] at hd; subst hd; exact h2
    · have hpD : p ∈ D ++ [c] := by
        rcases h5 with h5 | h5
        · simp [h5]
        · simp [h5]
      rcases idF_cases hP hc with ⟨e1, k1⟩ | ⟨s, hs, e1, k1⟩
      · refine .inl ⟨e1, hpD, fun d hd => ?_⟩
        rcases h4 d hd with k | k
        · simp [k]
        · by_cases e2 : d = c
          · simp [e2]
          · exact (k1 d e2 k).elim
      · refine .inr ⟨s, hs, e1, ?_, .inr ?_, ?_, ?_, .inl hpD⟩
        · intro hd
          rcases List.mem_append.1 hd with hd | hd
          · exact k1.1 ((h3 s hd).anti k1.2.1)
          · rw [List.mem_singleton] at hd; exact k1.1 hd
        · rcases h2 with h2 | h2
          · rw [← h2]; exact k1.2.1
          · exact h2.trans k1.2.1
        · intro d hd
          rcases List.mem_append.1 hd with hd | hd
          · exact (h3 d hd).trans k1.2.1
          · rw [List.mem_singleton] at hd; subst hd; exact k1.2.1
        · intro d hd
          rcases h4 d hd with k | k
          · exact .inl (by simp [k])
          · by_cases e2 : d = c
            · exact .inl (by simp [e2])
            · exact .inr (k1.2.2 d e2 k)
theorem ChS.len {nx : Nat → List Nat} {r P p : Nat} {D : List Nat} {cur : Int} (h : ChS nx r P p D cur) : D.length ≤ P := nodup_len P D h.nd h.lt
theorem ChS.done {nx : Nat → List Nat} {r P p : Nat} {D : List Nat} (h : ChS nx r P p D (-1)) : ∀ d, d ∈ D ↔ d = p ∨ Dm nx r p d := by
  rcases h.up with ⟨-, h1, h2⟩ | ⟨c, -, e, -⟩
  · exact fun d => ⟨h.sub d, fun k => k.elim (fun k => k ▸ h1) (h2 d)⟩
  · omega
set_option maxRecDepth 100000 in
set_option maxHeartbeats 1000000 in
theorem chain_any {nx : Nat → List Nat} {r P p : Nat} (hP : ∀ x, Rch nx (fun _ => False) r x → x < P) (hp : p < P) (hP1 : P ≤ 1000) (v : Value) (w : World) (hv : IRow w v ((List.range P).map (idF nx r))) :
    Calls Try.prog 39 #[v, .int .i64 (p : Int)] w fun e w' => ∃ (u : Value) (D : List Nat), e = .returned (.tuple #[u, .bool true]) ∧ ownI w.heap.size w' u (D.map fun (n : Nat) => (n : Int)) ∧ D.length ≤ P ∧ (∀ d, d ∈ D ↔ d = p ∨ Dm nx r p d) ∧ Below w.heap.size w w' := by
  obtain ⟨ao, vc, rfl, hv⟩ := hv
  have hl : ((List.range P).map (idF nx r)).length = P := by simp
  rw [hl] at hv ⊢
  obtain ⟨g, rfl, hg, hc⟩ : ∃ g, ao = some ⟨g, 0, none⟩ ∧ g < w.heap.size ∧ ∀ k, k < P → w.cell? ⟨g, k, none⟩ = some (.int .i64 (idF nx r k)) := by
    rcases hv with hv | ⟨g, e, hg, hc⟩
    · exfalso
      have := congrArg List.length hv
      rw [hl] at this; simp at this; omega
    · refine ⟨g, e, hg, fun k hk => ?_⟩
      rw [hc k hk, List.getD_eq_getElem?_getD, List.getElem?_map, List.getElem?_range hk]; rfl
  have HC := Lib.hid hc; have HP := Lib.hid hP; have HG := Lib.hid hg
  clear hv hl hc hP hg
  have v1 : IntKind.i64.wrap ((P : Int) + 1) = (P : Int) + 1 := by rw [IntKind.wrap_i64]; omega
  go_enter Try.func39, Try.ntmps39
  go_wp2_with fail
  go_loopw [10, 1, 6] (fun iv cv ov wr => ∃ (D : List Nat) (cur : Int), iv = .int .i64 (D.length : Int) ∧ cv = .int .i64 cur ∧ ownI w.heap.size wr ov (D.map fun (n : Nat) => (n : Int)) ∧ ChS nx r P p D cur ∧ Below w.heap.size w wr) (fun iv _ _ _ => P + 1 - (intOf iv).toNat)
  case atStart => exact ⟨[], _, rfl, rfl, ownI.nil, ChS.start hp, Below.refl _ _⟩
  case round =>
    obtain ⟨wr1, rfl⟩ : ∃ W1 : World, W1 = wr := ⟨_, rfl⟩
    obtain ⟨D, cur, rfl, rfl, hown, hch, hb⟩ := hrel
    have hlen := hch.len
    have j1 : (D.length : Int) < (P : Int) + 1 := by omega
    by_cases hcur : cur = -1
    · subst hcur
      have HH := Lib.hid (And.intro hown (And.intro hch hb))
      clear hown hch hb
      go_wp2_with fail
      refine bodyPost_ret (by first | (simp [results, Try.results39, go_sem]; done) | (simp [results, Try.results39, go_sem]; rfl)) rfl ?_
      obtain ⟨hown, hch, hb⟩ := HH.out
      exact ⟨_, D, rfl, hown, hch.len, hch.done, hb⟩
    · obtain ⟨c, hcP, rfl⟩ : ∃ c : Nat, c < P ∧ cur = (c : Int) := by
        rcases hch.up with ⟨h1, -⟩ | ⟨c, hc, e, -⟩
        · exact (hcur h1).elim
        · exact ⟨c, hc, e⟩
      have hn := (hch.next HP.out).1
      obtain ⟨vo, oc, rfl, -⟩ := hown.slice
      rw [List.length_map] at hown
      have j2 : (0 : Int) ≤ (c : Int) := by omega
      have j3 : (c : Int) < (P : Int) := by omega
      have hbA : Below wr1.heap.size wr1 (wr1.alloc (.cells #[.int .i64 (c : Int)] 3)) := (Below.refl _ _).alloc (Nat.le_refl _) _
      have hoA := hown.below hbA
      have hle : w.heap.size ≤ (wr1.alloc (.cells #[.int .i64 (c : Int)] 3)).heap.size := by have := hb.size; simp; omega
      have hz : (wr1.alloc (.cells #[.int .i64 (c : Int)] 3)).heap.size = wr1.heap.size + 1 := by simp
      have hc0 : (wr1.alloc (.cells #[.int .i64 (c : Int)] 3)).cell? ⟨wr1.heap.size, 0, none⟩ = some (.int .i64 (c : Int)) := by go_cell
      have hb2 := Below.chain hb hbA
      have hlm : (D.map fun (n : Nat) => (n : Int)).length ≤ 1200000 := by rw [List.length_map]; omega
      have HOA := Lib.hid hoA; have HLE := Lib.hid hle; have HC0 := Lib.hid hc0; have HB2 := Lib.hid hb2; have HN := Lib.hid hn; have HLM := Lib.hid hlm; have HLEN := Lib.hid hlen; have HCP := Lib.hid hcP
      have HBN := Lib.hid (And.intro hb hz)
      clear hown hch hb hbA hoA hle hz hc0 hb2 hn hlm hlen hcur hcP
      go_wp2_with (first | (at_builtin; refine wpList_push (lo := w.heap.size) (l := D.map fun (n : Nat) => (n : Int)) rfl (.tmp 23) (.tmp 25) rfl (by simp [Act.eval, Act.put]) HOA.out HLM.out HLE.out wr1.heap.size (c : Int) (by simp [Act.eval, Act.put]) HC0.out ?_; intro g9 cap n9 w9 hn9 h9 hg9 hgx; clear hgx; obtain rfl : n9 = D.length + 1 := hn9.trans (by rw [List.length_map]); clear hn9; refine Hid.out ?_) | fail)
      have hb9 : Below w.heap.size w w9 := by
        have h := But.of_grown (S := fun b => (Value.slice vo D.length oc).ownBlock = some b) hg9 (fun _ e => e)
        exact HB2.out.trans ⟨h.os, h.tape, h.output, h.size, fun k hk => h.block k (by have := HLE.out; omega) (fun e => by have := (HOA.out.lt e).1; omega)⟩
      have z0 := (hb9.cell (p := ⟨g, c, none⟩) HG.out).trans (HC.out c HCP.out)
      have HB9 := Lib.hid hb9; have H9 := Lib.hid h9
      clear hb9 hg9 h9
      refine Lib.hid ?_
      go_wp2_with fail
      go_roundw
      case rel =>
        refine ⟨D ++ [c], idF nx r c, by rw [List.length_append]; go_num, rfl, ?_, HN.out, HB9.out⟩
        rw [List.map_append]; exact H9.out
      case measure => have := HLEN.out; simp [intOf]; omega
theorem good_any {A : Nat → Prop} (n x : Int) (ao : Option Addr) (c : Nat) (E : List Ed) (w : World) (hr : ERow A w ao c E) :
    Calls Try.prog 38 #[.agg #[.int .i64 n, .int .i64 x, .slice ao E.length c]] w fun e w' => e = .returned (.bool (fewG n E && decide (ckG n x E = 0))) ∧ Below w.heap.size w w' := by
  have hA : Below w.heap.size w (w.alloc (Obj.cells #[.int .i64 n, .int .i64 x, .slice ao E.length c] 24)) := (Below.refl _ _).alloc (Nat.le_refl _) _
  have hX := GBx.new w n x ao E.length c
  have KF := Lib.hid (few_any n x ao c E (w.alloc (Obj.cells #[.int .i64 n, .int .i64 x, .slice ao E.length c] 24)))
  have CC := fun W hW => refCheck_any n x ao c E W (hr.keep (B := A) (But.of_below (S := fun _ => False) (w' := W) hW) (fun _ h _ => ⟨id, h⟩))
  have KC := Lib.hid CC; have HA := Lib.hid hA; have HX := Lib.hid hX
  obtain ⟨y0, y1, y2, y3⟩ := hX
  clear hr hA CC
  generalize fewG n E = fw at *
  obtain ⟨K, hK⟩ : ∃ K, ckG n x E = K := ⟨_, rfl⟩
  rw [hK] at KC ⊢
  clear hK
  have t1 : ((K : Int) == 0) = decide (K = 0) := by rw [Bool.eq_iff_iff]; simp
  cases fw with
  | false =>
    go_enter Try.func38, Try.ntmps38
    go_wp2_with (first | (go_at_call 13; refine (KF.out).mono ?_; rintro e w1 ⟨rfl, hb⟩; refine Hid.out ?_) | fail)
    have HB := Lib.hid (Below.chain HA.out hb)
    clear hb
    refine Lib.hid ?_
    go_wp2_with fail
    go_ret
    exact ⟨by simp, HB.out⟩
  | true =>
    go_enter Try.func38, Try.ntmps38
    go_wp2_with (first | (go_at_call 13; refine (KF.out).mono ?_; rintro e w1 ⟨rfl, hb⟩; refine Hid.out ?_) | fail)
    have HB := Lib.hid (Below.chain HA.out hb)
    obtain ⟨y0, y1, y2, y3⟩ := HX.out.below hb
    clear hb
    refine Lib.hid ?_
    go_wp2_with (first | (go_at_call 22; refine (KC.out _ HB.out).mono ?_; rintro e w2 ⟨rfl, hb⟩; refine Hid.out ?_) | fail)
    have HB2 := Lib.hid (Below.chain HB.out hb)
    clear hb
    refine Lib.hid ?_
    go_wp2_with fail
    go_ret
    exact ⟨by simp, HB2.out⟩
end Go.Proofs.Ytjjkabgbcflipaa
namespace Go.Proofs.Ytjjkabgbcflipaa
open Go Go.Proofs Go.RowKit Go.Shelf GM

attribute [local go_sem] Oper.semAt_some
set_option maxRecDepth 100000 in
set_option maxHeartbeats 1000000 in
theorem wpList_slice_ed {ops : Array Oper} {rest : List Oper} {op : Oper} {a : Act} {W : World} {Q : Exit → Act → World → Prop} (y : Operand) (hgd : op.guard = none) (ho : op.op = .buildSlice 22 1 #[(0, y)])
    (d : Ed) (hy : a.eval y = .agg d.cs) (h : wpList Try.prog ops Q rest (a.put op.dst (.slice (some ⟨W.heap.size, 0, none⟩) 1 1)) (W.alloc (.cells d.cs 55))) :
    wpList Try.prog ops Q (op :: rest) a W :=
  wpList_plain hgd fun _ hK => by
    obtain ⟨f, t, a2, a3, a4, a5, a6, a7, a8, s9, a10, o11, n11, c11, a12, s13, a14, o15, n15, c15, a16, o17, n17, c17, o18, n18, c18, o19, n19, c19, o20, n20, c20⟩ := d
    unfold Ed.cs at hy h
    unfold Oper.wp execOp
    simp only [ho, List.map_toArray, List.map_cons, List.map_nil, hy]
    go_simp
    exact hK _ _ h
end Go.Proofs.Ytjjkabgbcflipaa
namespace Go.Proofs.Ytjjkabgbcflipaa
open Go Go.Proofs Go.RowKit Go.Shelf GM

attribute [local go_sem] Oper.semAt_some

theorem contains_ir {A : Nat → Prop} {W : World} {v : Value} {D : List Nat} (h : IR A W v D) (hl : D.length ≤ 100000) (z : Nat) :
    Calls Try.prog 40 #[v, .int .i64 (z : Int)] W fun e w' => e = .returned (.bool (decide (z ∈ D))) ∧ Below W.heap.size W w' := by
  obtain ⟨ao, c, rfl, h⟩ := h
  rcases h with h | ⟨b, o, rfl, -, -, h⟩
  · subst h
    refine (Try.slices_Contains_int_empty ao c (z : Int) W).mono ?_
    rintro e w' ⟨rfl, rfl⟩
    exact ⟨by simp, Below.refl _ _⟩
  · refine (Try.slices_Contains_int b o D.length c (D.map fun (n : Nat) => (n : Int)) (z : Int) W (by simp) (by omega) (fun j hj => ?_)).mono ?_
    · rw [List.length_map] at hj
      rw [h j hj, List.getD_eq_getElem?_getD, List.getElem?_map, List.getElem?_eq_getElem hj]
      unfold atD
      rw [List.getD_eq_getElem?_getD, List.getElem?_eq_getElem hj]
      rfl
    · rintro e w' ⟨rfl, rfl⟩
      refine ⟨?_, Below.refl _ _⟩
      rw [List.take_of_length_le (by simp)]
      congr 2
      rw [Bool.eq_iff_iff, List.contains_iff_mem, decide_eq_true_iff, List.mem_map]
      exact ⟨fun ⟨a, h1, h2⟩ => by have e : a = z := by omega
                                   rwa [← e], fun h => ⟨z, h, rfl⟩⟩
theorem IRow.shape {W : World} {v : Value} {P : Nat} {f : Nat → Int} (h : IRow W v ((List.range P).map f)) (hP : 0 < P) : ∃ g c, v = .slice (some ⟨g, 0, none⟩) P c ∧ g < W.heap.size ∧ ∀ k, k < P → W.cell? ⟨g, k, none⟩ = some (.int .i64 (f k)) := by
  obtain ⟨ao, c, rfl, h⟩ := h
  have hl : ((List.range P).map f).length = P := by simp
  rcases h with h | ⟨g, rfl, h1, h2⟩
  · rw [h] at hl; simp at hl; omega
  · refine ⟨g, c, by rw [hl], h1, fun k hk => ?_⟩
    rw [h2 k (by rw [hl]; exact hk), List.getD_eq_getElem?_getD, List.getElem?_map, List.getElem?_range hk]; rfl
theorem ckG_of {P : Nat} {x : Int} {E : List Ed} (h1 : 1 ≤ P) (h2 : P ≤ 512) (h3 : isPt P x = true) (h4 : E.length ≤ 1024) (h5 : ∀ d ∈ E, isPt P d.f = true ∧ isPt P d.t = true) : ckG P x E = 0 := by
  unfold ckG
  rw [if_neg (by omega), h3, if_neg (by simp), if_neg (by omega), if_pos]
  unfold ckEs
  rw [List.all_eq_true]
  intro d hd
  rw [(h5 d hd).1, (h5 d hd).2]; rfl
theorem ckG_mem {P : Nat} {x : Int} {E : List Ed} (h : ckG P x E = 0) {d : Ed} (hd : d ∈ E) : isPt P d.f = true ∧ isPt P d.t = true := by
  obtain ⟨-, -, -, hp⟩ := ckG_ok h
  obtain ⟨j, hj, rfl⟩ := List.getElem_of_mem hd
  have := hp j hj
  rwa [edD_eq hj] at this
theorem nxF_mem {P p q : Nat} {E : List Ed} (hp : p < P) : q ∈ nxF P E p ↔ ∃ d ∈ E, d.f = (p : Int) ∧ d.t.toNat = q := by
  rw [nx_mem (fun d => d.f) (fun d => d.t) E hp]
  constructor
  · rintro ⟨j, hj, h1, h2⟩
    exact ⟨edD E j, edD_mem hj, h1, h2⟩
  · rintro ⟨d, hd, h1, h2⟩
    obtain ⟨j, hj, rfl⟩ := List.getElem_of_mem hd
    exact ⟨j, hj, by rw [edD_eq hj]; exact h1, by rw [edD_eq hj]; exact h2⟩
theorem nxF_src {P p q : Nat} {E : List Ed} (h : q ∈ nxF P E p) : p < P := by
  refine Nat.lt_of_not_le fun hb => ?_
  have : nxF P E p = [] := by unfold nxF nxt; rw [lsN_out _ _ (by omega)]; rfl
  rw [this] at h; simp at h
end Go.Proofs.Ytjjkabgbcflipaa
namespace Go.Proofs.Ytjjkabgbcflipaa
open Go Go.Proofs Go.RowKit Go.Shelf Go.Lib Go.Sort GM

attribute [local go_sem] Oper.semAt_some

/-- What the numbers of components are. -/
structure CmpS (nx : Nat → List Nat) (P : Nat) (N : Nat → Int) (m : Nat) : Prop where
  rng : ∀ p, p < P → ∃ j : Nat, j < m ∧ N p = (j : Int)
  mutu : ∀ p q, p < P → q < P → (N p = N q ↔ Mu nx p q)
  edge : ∀ a b, b ∈ nx a → N b ≤ N a
  onto : ∀ j, j < m → ∃ p, p < P ∧ N p = ((j : Nat) : Int)
theorem cmps_of {nx : Nat → List Nat} {P : Nat} {LL : List (List Nat)} (C : Cls nx P LL) (hn : ∀ a b, b ∈ nx a → a < P ∧ b < P) : CmpS nx P (compN nx LL LL.length) LL.length := by
  obtain ⟨ch, hch, s⟩ := nums_of C hn LL.length (Nat.le_refl _)
  have hcov := fun p (hp : p < P) => s.covers C (by omega) hp
  refine ⟨fun p hp => ?_, fun p q hp hq => ?_, fun a b hb => ?_, fun j hj => ?_⟩
  · obtain ⟨j, l, hj, -, e⟩ := hcov p hp
    exact ⟨j, by rw [← hch]; exact (List.getElem?_eq_some_iff.1 hj).1, e⟩
  · obtain ⟨i, l, hi, hl, e1⟩ := hcov p hp
    obtain ⟨j, m, hj, hm, e2⟩ := hcov q hq
    have hll := s.sub l (List.mem_of_getElem? hi)
    constructor
    · intro e
      have : i = j := by omega
      subst this
      rw [hi] at hj
      cases hj
      exact (C.cls l hll p hl q).1 hm
    · intro k
      have hql := (C.cls l hll p hl q).2 k
      rw [e1, s.uni C hi hql]
  · obtain ⟨ha, hbP⟩ := hn a b hb
    obtain ⟨i, l, hi, hl, e1⟩ := hcov a ha
    rcases s.edge i l hi a hl b hb with k | ⟨-, k⟩
    · rw [s.uni C hi k, e1]; exact Int.le_refl _
    · omega
  · have hj2 : j < ch.length := by omega
    have hmem := List.getElem_mem hj2
    obtain ⟨p, hp⟩ := List.exists_mem_of_ne_nil _ (C.ne _ (s.sub _ hmem))
    exact ⟨p, C.lt _ (s.sub _ hmem) p hp, s.uni C (List.getElem?_eq_getElem hj2) hp⟩
/-- What Components answers. -/
theorem comp_u {A : Nat → Prop} (P : Nat) (x : Int) (ao : Option Addr) (c : Nat) (E : List Ed) (w : World) (hr : ERow A w ao c E) (h0 : ckG P x E = 0) :
    Calls Try.prog 25 #[.agg #[.int .i64 (P : Int), .int .i64 x, .slice ao E.length c]] w fun e w' => ∃ g N m, e = .returned (.tuple #[.slice (some ⟨g, 0, none⟩) P P, .int .i64 0]) ∧ NmAt w' g P N ∧ CmpS (nxF P E) P N m ∧ Below w.heap.size w w' := by
  refine (Components_any P x ao c E w hr).mono ?_
  rintro e w' ⟨hb, ⟨h, -⟩ | ⟨-, t, us, LL, g, rfl, hv, hg, hL, -, hN, -⟩⟩
  · exact (h h0).elim
  · rw [Int.toNat_natCast] at hN hv hg hL
    rw [Int.toNat_natCast]
    have hn : ∀ a b, b ∈ nxF P E a → a < P ∧ b < P := fun a b hb => ⟨nxF_src hb, nxF_lt h0 hb⟩
    have hrv : ∀ a b, b ∈ nxR P E a ↔ a ∈ nxF P E b := by
      intro a b
      have e : nxR P E a = nxB P E a := rfl
      rw [e]
      constructor
      · intro h
        have ha : a < P := by rw [← nxF_turn] at h; exact nxF_src h
        rw [← nxF_turn, nxF_mem ha] at h
        obtain ⟨d, hd, h1, h2⟩ := h
        obtain ⟨f, hf, rfl⟩ := List.mem_map.1 hd
        have k := isPt_true (ckG_mem h0 hf).1
        have h1 : f.t = (a : Int) := h1
        have h2 : f.f.toNat = b := h2
        exact (nxF_mem (by omega)).2 ⟨f, hf, by omega, by omega⟩
      · intro h
        obtain ⟨f, hf, h1, h2⟩ := (nxF_mem (nxF_src h)).1 h
        have k := isPt_true (ckG_mem h0 hf).2
        rw [← nxF_turn, nxF_mem (nxF_lt h0 h)]
        exact ⟨turn f, List.mem_map.2 ⟨f, hf, rfl⟩, by show f.t = (a : Int); omega, by show f.f.toNat = b; omega⟩
    exact ⟨g, _, _, rfl, hN, cmps_of (cls_of hrv hn hv hg hL) hn, hb⟩
/-- What compacting leaves of the sorted numbers. -/
theorem compact_nums {l : List Int} {m : Nat} (hr : ∀ z ∈ l, ∃ j : Nat, j < m ∧ z = (j : Int)) (ho : ∀ j, j < m → ((j : Nat) : Int) ∈ l) (hs : l.Pairwise (· ≤ ·)) : ∃ c : Nat, Lib.compact l = (List.range c).map fun (n : Nat) => (n : Int) := by
  have hget : ∀ i, i < l.length → l.toArray[i]! = l.getD i 0 := fun i hi => by
    rw [getElem!_pos _ i (by simpa using hi), List.getD_eq_getElem?_getD, List.getElem?_eq_getElem hi]; rfl
  have hmono : ∀ i j, i ≤ j → j < l.length → l.getD i 0 ≤ l.getD j 0 := fun i j hij hj => by
    rw [List.getD_eq_getElem?_getD, List.getD_eq_getElem?_getD, List.getElem?_eq_getElem (by omega : i < l.length), List.getElem?_eq_getElem hj]
    rcases Nat.lt_or_eq_of_le hij with h | h
    · exact List.pairwise_iff_getElem.1 hs i j (by omega) hj h
    · subst h; exact Int.le_refl _
  have hat : ∀ i, i < l.length → l.getD i 0 ∈ l := fun i hi => by
    rw [List.getD_eq_getElem?_getD, List.getElem?_eq_getElem hi]; exact List.getElem_mem hi
  have hidx : ∀ z ∈ l, ∃ i, i < l.length ∧ l.getD i 0 = z := fun z hz => by
    obtain ⟨i, hi, rfl⟩ := List.getElem_of_mem hz
    exact ⟨i, hi, by rw [List.getD_eq_getElem?_getD, List.getElem?_eq_getElem hi]; rfl⟩
  have key : ∀ i, i ≤ l.length → ∃ c : Nat, compactUpTo l.toArray i = ((List.range c).map fun (n : Nat) => (n : Int)) ∧ ((i = 0 ∧ c = 0) ∨ (0 < i ∧ l.getD (i - 1) 0 + 1 = (c : Int))) := by
    intro i
    induction i with
    | zero => exact fun _ => ⟨0, rfl, .inl ⟨rfl, rfl⟩⟩
    | succ i ih =>
      intro hi
      obtain ⟨c, hc, h⟩ := ih (by omega)
      rw [compactUpTo_succ, hc]
      obtain ⟨a, ha, ea⟩ := hr _ (hat i (by omega))
      rcases h with ⟨h1, h2⟩ | ⟨h1, h2⟩
      · subst h1 h2
        have e0 : l.getD 0 0 = 0 := by
          obtain ⟨k, hk, ek⟩ := hidx _ (ho 0 (by omega))
          have := hmono 0 k (by omega) hk
          omega
        refine ⟨1, ?_, .inr ⟨by omega, by rw [show 0 + 1 - 1 = 0 from rfl, e0]; rfl⟩⟩
        rw [if_pos (keeps_lt_one _ 0 (by omega)), hget 0 (by omega), e0]
        rfl
      · have hle := hmono (i - 1) i (by omega) (by omega)
        by_cases e : l.getD i 0 = l.getD (i - 1) 0
        · refine ⟨c, ?_, .inr ⟨by omega, by rw [show i + 1 - 1 = i from rfl, e]; exact h2⟩⟩
          rw [keeps_neg h1 (by rw [hget i (by omega), hget (i - 1) (by omega)]; exact e)]
          simp
        · have hnx : l.getD i 0 = (c : Int) := by
            refine Classical.byContradiction fun hne => ?_
            have hcm : c < m := by omega
            obtain ⟨k, hk, ek⟩ := hidx _ (ho c hcm)
            by_cases hki : k ≤ i - 1
            · have := hmono k (i - 1) hki (by omega)
              omega
            · have := hmono i k (by omega) hk
              omega
          refine ⟨c + 1, ?_, .inr ⟨by omega, by rw [show i + 1 - 1 = i from rfl, hnx]; push_cast; rfl⟩⟩
          rw [if_pos (keeps_pos (by rw [hget i (by omega), hget (i - 1) (by omega)]; exact e)), hget i (by omega), hnx, List.range_succ, List.map_append]
          rfl
  obtain ⟨c, hc, -⟩ := key l.length (Nat.le_refl _)
  exact ⟨c, hc⟩
theorem compact_own {lo : Nat} {W : World} {v : Value} {l : List Int} (h : ownI lo W v l) (h0 : l ≠ []) (hl : l.length ≤ 1200000) :
    Calls Try.prog 43 #[v] W fun e w' => ∃ g cap ts, e = .returned (.slice (some ⟨g, 0, none⟩) (Lib.compact l).length cap) ∧ v = .slice (some ⟨g, 0, none⟩) l.length cap ∧ ts.length = l.length ∧ (∀ k, k < (Lib.compact l).length → ts.getD k 0 = (Lib.compact l).getD k 0) ∧ ownI lo w' v ts ∧ W.grownBy w' v.ownBlock := by
  rcases id h.2 with ⟨e, hz⟩ | ⟨g, cap, cur, e, hlo, hg, h1, h2, h3, h4⟩
  · exact (h0 (List.length_eq_zero_iff.1 hz)).elim
  · subst e
    rw [Nat.mul_one] at h4
    have hH := holds_of_blockI (ss := l) hg (by rw [h4]; rfl)
    have hcl : (Lib.compact l).length ≤ l.length := compact_length_le l
    have hre : (Lib.compact l ++ List.replicate (l.length - (Lib.compact l).length) (0 : Int)).length = l.length := by rw [List.length_append, List.length_replicate]; omega
    refine (Try.slices_Compact_int g 0 cap l W hH (by omega) h1).mono ?_
    rintro e w' ⟨rfl, q, rfl⟩
    refine ⟨g, cap, Lib.compact l ++ List.replicate (l.length - (Lib.compact l).length) 0, rfl, rfl, hre, fun k hk => ?_, ?_, ?_⟩
    · rw [List.getD_eq_getElem?_getD, List.getD_eq_getElem?_getD, List.getElem?_append_left hk]
    · have := ownsRow_sortedI (n := q) (os := #[]) (ss := l) (ts := Lib.compact l ++ List.replicate (l.length - (Lib.compact l).length) 0) hre hlo hg h1 h2 h3
      rw [grow_empty] at this
      unfold ownI
      rw [hre]
      exact this
    · have := grownBy_sortedI (w := W) (g := g) (n := q) (os := #[]) (Lib.compact l ++ List.replicate (l.length - (Lib.compact l).length) 0).toArray
      rw [grow_empty] at this
      exact this
set_option maxRecDepth 100000 in
set_option maxHeartbeats 8000000 in
theorem graphOrders_walk {A : Nat → Prop} (n x : Int) (ao : Option Addr) (c : Nat) (E : List Ed) (ya yb : Nat) (w : World) (hr : ERow A w ao c E) (hya : ya < 256) (hyb : yb < 256) :
    Calls Try.prog 9 #[.agg #[.int .i64 n, .int .i64 x, .slice ao E.length c], .int .u8 (ya : Int), .int .u8 (yb : Int)] w fun e w' => e = .returned (.bool true) ∧ Below w.heap.size w w' := by
  have hA : Below w.heap.size w (w.alloc (Obj.cells #[.int .i64 n, .int .i64 x, .slice ao E.length c] 24)) := (Below.refl _ _).alloc (Nat.le_refl _) _
  have hX := GBx.new w n x ao E.length c
  have HB := Lib.hid hA; have HX := Lib.hid hX
  have hR := fun W (hW : Below w.heap.size w W) => hr.keep (B := A) (But.of_below (S := fun _ => False) (w' := W) hW) (fun _ h _ => ⟨id, h⟩)
  have HR := Lib.hid hR
  have KF := Lib.hid (good_any n x ao c E (w.alloc (Obj.cells #[.int .i64 n, .int .i64 x, .slice ao E.length c] 24)) (hR _ hA))
  have KW := Lib.hid awake_any
  obtain ⟨y0, y1, y2, y3⟩ := hX
  clear hA hR
  cases hf : (fewG n E && decide (ckG n x E = 0)) with
  | false =>
    rw [hf] at KF
    go_enter Try.func9, Try.ntmps9
    go_wp2_with (first | (go_at_call 38; refine (KF.out).mono ?_; rintro e w1 ⟨rfl, hb⟩; refine Hid.out ?_) | fail)
    have HB1 := Lib.hid (Below.chain HB.out hb); clear hb HB
    refine Lib.hid ?_
    go_wp2_with (first | (go_at_call 14; refine (KW.out _).mono ?_; rintro e w2 ⟨rfl, hb⟩; refine Hid.out ?_) | fail)
    have HB2 := Lib.hid (Below.chain HB1.out hb); clear hb
    refine Lib.hid ?_
    go_wp2_with fail
    go_ret
    exact ⟨rfl, HB2.out⟩
  | true =>
    rw [hf] at KF
    rw [Bool.and_eq_true, decide_eq_true_iff] at hf
    have h0 := hf.2
    clear hf
    obtain ⟨hn1, hn2, hpx⟩ := ckG_pos h0
    obtain ⟨P, rfl⟩ := Int.eq_ofNat_of_zero_le (show 0 ≤ n by omega)
    obtain ⟨-, -, hlen, -⟩ := ckG_ok h0
    have hat : ∀ j, j < E.length → ∃ b o, ao = some ⟨b, o, none⟩ ∧ b < w.heap.size ∧ EdAt w b (o + j * 21) (edD E j) := fun j hj => by
      obtain ⟨b, o, e, -, h1, h2, -⟩ := hr.get j hj
      exact ⟨b, o, e, h1, h2⟩
    have HAT := Lib.hid hat; have H0 := Lib.hid h0; have HLEN := Lib.hid hlen
    clear hat h0 hr hpx
    have hP2 : P ≤ 512 := by omega
    go_enter Try.func9, Try.ntmps9
    go_wp2_with (first | (go_at_call 38; refine (KF.out).mono ?_; rintro e w1 ⟨rfl, hb⟩; refine Hid.out ?_) | fail)
    have hx1 := HX.out.below hb; clear HX; have HX := Lib.hid hx1
    have hb1 := Below.chain HB.out hb; clear HB; have HB := Lib.hid hb1
    clear hb hx1 hb1 y0 y1 y2 y3 KF
    obtain ⟨y0, y1, y2, y3⟩ := HX.out
    have HK := Lib.hid (comp_u P x ao c E w1 (HR.out _ HB.out) H0.out)
    refine Lib.hid ?_
    go_wp2_with (first | (go_at_call 25; refine (HK.out).mono ?_; rintro e w2 ⟨g, N, m, rfl, hN, hC, hb⟩; refine Hid.out ?_) | fail)
    have hx1 := HX.out.below hb; clear HX; have HX := Lib.hid hx1
    have hb1 := Below.chain HB.out hb; clear HB; have HB := Lib.hid hb1
    obtain ⟨p, hp⟩ : ∃ p, p = ya % P := ⟨_, rfl⟩
    obtain ⟨q, hq⟩ : ∃ q, q = yb % P := ⟨_, rfl⟩
    have hpP : p < P := by rw [hp]; exact Nat.mod_lt _ (by omega)
    have hqP : q < P := by rw [hq]; exact Nat.mod_lt _ (by omega)
    have HN2 := Lib.hid hN; have HCS := Lib.hid hC; have HP := Lib.hid hp; have HQ := Lib.hid hq; have HPP := Lib.hid hpP; have HQP := Lib.hid hqP
    clear hb hx1 hb1 y0 y1 y2 y3 HK hN hC hp hq hpP hqP
    refine Lib.hid ?_
    go_wp2_with fail
    refine oa_region w.heap.size P ya yb p q _ _ _ _ _ _ _ _ _ _ _ _ _ _ _ _ _ _ _ _ _ _ _ _ _ _ _ _ _ _ _ _ _ _ _ _ _ _ _ _ _ _ _ _ _ _ _ _ _ _ _ _ _ _ _ _ _ _ _ _ _ _ _ _ _ _ _ _ _ _ _ _ _ _ _ _ _ _ _ _ _ _ _ _ _ _ _ _ _ _ _ _ _ _ _ _ _ _ _ _ _ _ _ _ _ _ _ _ _ _ _ _ _ _ _ _ _ _ _ _ _ _ _ _ _ _ _ _ _ _ _ _ _ _ (by omega) (by omega) hya hyb HP HQ HX.out.lt HX.out.c0 ?_
    intro u9 u10 u29 u30 u31 u32 u33 u34 u35 u36 u37 u38 w3 hb h0 h1 h2 h3 h4 h5 h6 h7 h8 h9 h10 h11
    clear h0 h1 h2 h3 h4 h5 h6 h7 h8 h9
    subst h10 h11
    have hx1 := HX.out.below hb; clear HX; have HX := Lib.hid hx1
    have hb1 := Below.chain HB.out hb; clear HB; have HB := Lib.hid hb1
    have HN3 := Lib.hid (HN2.out.below hb)
    clear hb hx1 hb1 HN2
    obtain ⟨y0, y1, y2, y3⟩ := HX.out
    have rN : ∀ z : Nat, z < P → rchN (P : Int) x E z = P := fun z hz => by unfold rchN; rw [if_pos ⟨H0.out, isPt_of ⟨by omega, by omega⟩⟩, Int.toNat_natCast]
    have rE : ∀ z : Nat, z < P → rchE (P : Int) x E z = 0 := fun z hz => by unfold rchE; rw [if_pos H0.out, if_pos (isPt_of ⟨by omega, by omega⟩)]
    have k2 := fun W hW (z : Nat) => reach_u (P : Int) x ao c E W (HR.out W hW) z
    have RN := Lib.hid rN; have RE := Lib.hid rE; have K2 := Lib.hid k2
    clear rN rE k2
    unfold oaAct
    have k3 := K2.out w3 HB.out p
    rw [RN.out p HPP.out, RE.out p HPP.out] at k3
    have K3 := Lib.hid k3
    clear k3
    go_wp2_with (first | (go_at_call 19; refine (K3.out).mono ?_; rintro e w4 ⟨hb, px, cx, rfl, hrx⟩; refine Hid.out ?_) | fail)
    have hx1 := HX.out.below hb; clear HX; have HX := Lib.hid hx1
    have hb1 := Below.chain HB.out hb; clear HB; have HB := Lib.hid hb1
    have HN4 := Lib.hid (HN3.out.below hb)
    have HRX := Lib.hid hrx
    have k4 := K2.out w4 HB.out q
    rw [RN.out q HQP.out, RE.out q HQP.out] at k4
    have K4 := Lib.hid k4
    clear hb hx1 hb1 HN3 hrx K3 k4 y0 y1 y2 y3
    obtain ⟨y0, y1, y2, y3⟩ := HX.out
    refine Lib.hid ?_
    go_wp2_with (first | (go_at_call 19; refine (K4.out).mono ?_; rintro e w5 ⟨hb, py, cy, rfl, hry⟩; refine Hid.out ?_) | fail)
    have hx1 := HX.out.below hb; clear HX; have HX := Lib.hid hx1
    have hb1 := Below.chain HB.out hb; clear HB; have HB := Lib.hid hb1
    have hn5 := HN4.out.below hb
    obtain ⟨xb, rfl, hx2, hx3⟩ : ∃ xb, px = some ⟨xb, 0, none⟩ ∧ xb < w5.heap.size ∧ ∀ z, z < P → w5.cell? ⟨xb, z, none⟩ = some (.bool (rchB (P : Int) E p z)) := by
      rcases HRX.out.below hb with h | h
      · omega
      · exact h
    obtain ⟨yb2, rfl, hy2, hy3⟩ : ∃ yb2, py = some ⟨yb2, 0, none⟩ ∧ yb2 < w5.heap.size ∧ ∀ z, z < P → w5.cell? ⟨yb2, z, none⟩ = some (.bool (rchB (P : Int) E q z)) := by
      rcases hry with h | h
      · omega
      · exact h
    have HN5 := Lib.hid hn5; have HXB := Lib.hid (And.intro hx2 hx3); have HYB := Lib.hid (And.intro hy2 hy3)
    clear hb hx1 hb1 HN4 hry K4 y0 y1 y2 y3 hn5 hx2 hx3 hy2 hy3
    obtain ⟨y0, y1, y2, y3⟩ := HX.out
    refine Lib.hid ?_
    go_wp2_with fail
    clear y0 y1 y2 y3
    go_loopw [81] (fun iv wr => ∃ (k : Nat), k ≤ E.length ∧ iv = .int .i64 (k : Int) ∧ Below w5.heap.size w5 wr) (fun iv _ => E.length - (intOf iv).toNat)
    case atStart => exact ⟨0, Nat.zero_le _, rfl, Below.refl _ _⟩
    case round =>
      obtain ⟨wr1, rfl⟩ : ∃ W1 : World, W1 = wr := ⟨_, rfl⟩
      obtain ⟨k, hk, rfl, hb6⟩ := hrel
      by_cases hlt : k < E.length
      · obtain ⟨b, o, rfl, hbl, he⟩ := HAT.out k hlt
        have j1 : (k : Int) < (E.length : Int) := by omega
        have j0 : (0 : Int) ≤ (k : Int) := by omega
        have hbw := Below.chain HB.out hb6
        have he2 : EdAt wr1 b (o + k * 21) (edD E k) := he.below' hbw hbl
        have hpts := ckG_mem H0.out (edD_mem hlt)
        have hmem := edD_mem hlt
        generalize edD E k = d at *
        have q1 := isPt_true hpts.1; have q2 := isPt_true hpts.2
        obtain ⟨r, hr9⟩ : ∃ r : Nat, d.f = (r : Int) := ⟨d.f.toNat, by omega⟩
        obtain ⟨s, hs9⟩ : ∃ s : Nat, d.t = (s : Int) := ⟨d.t.toNat, by omega⟩
        have hrP : r < P := by omega
        have hsP : s < P := by omega
        have hedge := HCS.out.edge r s ((nxF_mem hrP).2 ⟨d, hmem, hr9, by rw [hs9]; simp⟩)
        have bA : Below wr1.heap.size wr1 (wr1.alloc (.cells d.cs 55)) := (Below.refl _ _).alloc (Nat.le_refl _) _
        have hzA : (wr1.alloc (.cells d.cs 55)).heap.size = wr1.heap.size + 1 := by simp
        have q5 := ed_box0 wr1 d; have q6 := ed_box1 wr1 d
        rw [hr9] at q5
        rw [hs9] at q6
        have hnA := (HN5.out.below hb6).below bA
        have HE := Lib.hid he2; have HLT := Lib.hid hlt; have HNA := Lib.hid hnA; have HBA := Lib.hid (Below.chain hb6 bA); have HZA := Lib.hid hzA; have Q5 := Lib.hid q5; have Q6 := Lib.hid q6; have HED := Lib.hid hedge; have HRS := Lib.hid (And.intro hrP hsP)
        clear he he2 hlt hbw hpts hmem q1 q2 hr9 hs9 hrP hsP hedge bA hzA hnA hb6 hbl q5 q6
        go_wp2_with (first | (refine wpList_load_ed (.tmp 83) rfl rfl b (o + k * 21) (by simp [Act.eval, Act.put]) d HE.out ?_) | (refine wpList_store_ed (.tmp 16) (.tmp 84) rfl rfl rfl (by simp [Act.eval, Act.put]) d (by simp [Act.eval, Act.put]) ?_) | fail)
        refine ob_region g P P wr1.heap.size r s (N r) (N s) _ _ _ _ _ _ _ _ _ _ _ _ _ _ _ _ _ _ _ _ _ _ _ _ _ _ _ _ _ _ _ _ _ _ _ _ _ _ _ _ _ _ _ _ _ _ _ _ _ _ _ _ _ _ _ _ _ _ _ _ _ _ _ _ _ _ _ _ _ _ _ _ _ _ _ _ _ _ _ _ _ _ _ _ _ _ _ _ _ _ _ _ _ _ _ _ _ _ _ _ _ _ _ _ _ _ _ _ _ _ _ _ _ _ _ _ _ _ _ _ _ _ _ _ _ _ _ _ _ _ _ _ _ _ _ HRS.out.1 HRS.out.2 (by omega) HED.out HNA.out.lt (by rw [HZA.out]; omega) Q5.out Q6.out (HNA.out.nc r HRS.out.1) (HNA.out.nc s HRS.out.2) ?_
        intro u85 u86 u87 u88 u89 u90 u91 u92 u93 u94 u95 w6 b6 h0 h1 h2 h3 h4 h5 h6 h7 h8 h9 h10
        clear h0 h1 h2 h3 h4 h5 h6 h7 h8 h9
        subst h10
        have HB7 := Lib.hid (Below.chain HBA.out b6)
        clear b6
        unfold obAct
        go_wp2_with fail
        go_roundw
        case rel => exact ⟨k + 1, HLT.out, by go_num, HB7.out⟩
        case measure => have := HLT.out; simp [intOf]; omega
      · have hkm : k = E.length := by omega
        subst hkm
        clear hlt
        have hn6 := HN5.out.below hb6
        have hLl : ((List.range P).map N).length = P := by simp
        have kc := Try.slices_Clone_int g 0 P P ((List.range P).map N) wr1 (by rw [hLl]; exact Nat.le_refl _) (by omega) (fun j hj => by
          rw [hLl] at hj
          rw [Nat.zero_add, hn6.nc j hj, List.getD_eq_getElem?_getD, List.getElem?_map, List.getElem?_range hj]; rfl)
        have KC := Lib.hid kc; have HB6 := Lib.hid hb6
        clear kc hn6 hb6
        go_wp2_with (first | (go_at_call 41; refine (KC.out).mono ?_; rintro e w6 ⟨u, rfl, hu, -, hb⟩; refine Hid.out ?_) | fail)
        have hu2 : ownI wr1.heap.size w6 u ((List.range P).map N) := by
          unfold ownI
          rw [hLl]
          rw [List.take_of_length_le (by rw [hLl]; exact Nat.le_refl _)] at hu
          exact hu
        have ks := sort_own hu2 (by rw [hLl]; omega)
        obtain ⟨uo, uc, rfl, -⟩ := hu2.slice
        rw [hLl] at hu2 ks
        have HB7 := Lib.hid (Below.chain HB6.out hb); have HBU := Lib.hid hb; have KS := Lib.hid ks; have HU2 := Lib.hid hu2
        clear hb hu hu2 ks KC
        rw [hLl]
        refine Lib.hid ?_
        go_wp2_with (first | (go_at_call 42; refine (KS.out).mono ?_; rintro e w7 ⟨rfl, hu, hg7⟩; refine Hid.out ?_) | fail)
        have hsrt : (((List.range P).map N).mergeSort fun x y => decide (x ≤ y)).length = P := by rw [List.length_mergeSort, hLl]
        have hne : (((List.range P).map N).mergeSort fun x y => decide (x ≤ y)) ≠ [] := fun e => by
          have := congrArg List.length e
          rw [hsrt] at this; simp at this; omega
        have hcn := compact_nums (l := ((List.range P).map N).mergeSort fun x y => decide (x ≤ y)) (m := m) (fun z hz => by
            rw [List.mem_mergeSort, List.mem_map] at hz
            obtain ⟨a, ha, rfl⟩ := hz
            exact HCS.out.rng a (List.mem_range.1 ha)) (fun j hj => by
            rw [List.mem_mergeSort, List.mem_map]
            obtain ⟨a, ha, e⟩ := HCS.out.onto j hj
            exact ⟨a, List.mem_range.2 ha, e⟩) (by
            have h := List.pairwise_mergeSort (le := fun (x y : Int) => decide (x ≤ y)) (fun a b c h1 h2 => by rw [decide_eq_true_iff] at *; omega) (fun a b => by rw [Bool.or_eq_true, decide_eq_true_iff, decide_eq_true_iff]; omega) ((List.range P).map N)
            exact h.imp (fun h => by simpa using h))
        obtain ⟨cN, hcN⟩ := hcn
        have hcb : cN ≤ P := by
          have h1 : (Lib.compact (((List.range P).map N).mergeSort fun x y => decide (x ≤ y))).length ≤ _ := compact_length_le _
          rw [hcN, hsrt, List.length_map, List.length_range] at h1
          exact h1
        have HCB := Lib.hid hcb
        have HSL := Lib.hid hsrt
        clear hcb
        have kp := compact_own hu hne (by rw [hsrt]; omega)
        have hb7 : Below wr1.heap.size wr1 w7 := by
          have h := But.of_grown (S := fun b => (Value.slice uo P uc).ownBlock = some b) hg7 (fun _ e => e)
          exact HBU.out.trans ⟨h.os, h.tape, h.output, h.size, fun k hk => h.block k (by have := HBU.out.size; omega) (fun e => by have := (HU2.out.lt e).1; omega)⟩
        rw [hcN] at kp
        generalize (((List.range P).map N).mergeSort fun x y => decide (x ≤ y)) = srt at *
        have HB8 := Lib.hid hb7; have KP := Lib.hid kp; have HU7 := Lib.hid hu
        clear hu hg7 hcN hne hsrt hb7 kp KS HU2
        refine Lib.hid ?_
        go_wp2_with (first | (go_at_call 43; refine (KP.out).mono ?_; rintro e w8 ⟨g9, cap, ts, rfl, hv9, hts, htk, hu, hg8⟩; have HV9 := Lib.hid hv9; have HTS := Lib.hid hts; clear hv9 hts; refine Hid.out ?_) | fail)
        have hv9 := HV9.out
        have hts := HTS.out
        have hcl : ((List.range cN).map fun (n : Nat) => (n : Int)).length = cN := by simp
        rw [hcl] at htk
        have hb8 : Below wr1.heap.size wr1 w8 := by
          have h := But.of_grown (S := fun b => (Value.slice uo P uc).ownBlock = some b) hg8 (fun _ e => e)
          exact HB8.out.trans ⟨h.os, h.tape, h.output, h.size, fun k hk => h.block k (by have := HB8.out.size; omega) (fun e => by have := (HU7.out.lt e).1; omega)⟩
        have hcells : ∀ k, k < cN → cN ≤ ts.length → w8.cell? ⟨g9, k, none⟩ = some (.int .i64 (k : Int)) := fun k hk hle => by
          rw [hv9] at hu
          have hu9 : w8.ownsRow wr1.heap.size 3 1 (.slice (some ⟨g9, 0, none⟩) srt.length cap) srt.length (intCells ts) := by
            unfold ownI at hu
            rwa [hts] at hu
          rw [hu9.cellAt k (by omega)]
          unfold intCells
          have h1 := htk k hk
          rw [List.getElem?_map, List.getElem?_eq_getElem (by omega : k < ts.length)]
          rw [List.getD_eq_getElem?_getD, List.getElem?_eq_getElem (by omega : k < ts.length), List.getD_eq_getElem?_getD, List.getElem?_map, List.getElem?_range hk] at h1
          rw [show ts[k] = (k : Int) from h1]
          rfl
        have hcle : cN ≤ ts.length := by
          rw [hts, HSL.out]; exact HCB.out
        have HCE := Lib.hid (fun k hk => hcells k hk hcle); have HB9 := Lib.hid hb8
        have HLG : Hid (g9 < w8.heap.size) := Lib.hid (by
          rw [hv9] at hu
          exact (hu.lt rfl).2)
        clear hcells hcle hb8 htk hts hu hg8 KP HU7 hv9 HV9 HTS HSL
        refine Lib.hid ?_
        go_wp2_with fail
        have hcl2 : (((List.range cN).map fun (n : Nat) => (n : Int)).length : Int) = (cN : Int) := by rw [hcl]
        go_loopw [104] (fun iv wr => ∃ (k : Nat), k ≤ cN ∧ iv = .int .i64 (k : Int) ∧ Below w8.heap.size w8 wr) (fun iv _ => cN - (intOf iv).toNat)
        case atStart => exact ⟨0, Nat.zero_le _, rfl, Below.refl _ _⟩
        case round =>
          obtain ⟨wr2, rfl⟩ : ∃ W1 : World, W1 = wr := ⟨_, rfl⟩
          obtain ⟨k, hk, rfl, hb10⟩ := hrel
          by_cases hlt : k < cN
          · have j1 : (k : Int) < (cN : Int) := by omega
            have j0 : (0 : Int) ≤ (k : Int) := by omega
            have z0 := (hb10.cell (p := ⟨g9, k, none⟩) HLG.out).trans (HCE.out k hlt)
            have t9 : ((k : Int) != (k : Int)) = false := by simp
            have hcb : cN ≤ 1000000 := by have := HCB.out; omega
            have HLT := Lib.hid hlt; have HB10 := Lib.hid hb10
            clear hlt hb10
            go_wp2_with fail
            go_roundw
            case rel => exact ⟨k + 1, HLT.out, by go_num, HB10.out⟩
            case measure => have := HLT.out; simp [intOf]; omega
          · have hkm : k = cN := by omega
            subst hkm
            have hbx := Below.chain HB9.out hb10
            have hb5 := Below.chain (Below.chain HB6.out HB9.out) hb10
            have hn := HN5.out.below hb5
            have hx2 := Nat.lt_of_lt_of_le HXB.out.1 hb5.size
            have hy2 := Nat.lt_of_lt_of_le HYB.out.1 hb5.size
            have hx3 := (hb5.cell (p := ⟨xb, q, none⟩) HXB.out.1).trans (HXB.out.2 q HQP.out)
            have hy3 := (hb5.cell (p := ⟨yb2, p, none⟩) HYB.out.1).trans (HYB.out.2 p HPP.out)
            have heq : (N p == N q) = (rchB (P : Int) E p q && rchB (P : Int) E q p) := by
              rw [Bool.eq_iff_iff, beq_iff_eq, Bool.and_eq_true, rchB_iff, rchB_iff, Int.toNat_natCast, Int.toNat_natCast, Int.toNat_natCast]
              exact HCS.out.mutu p q HPP.out HQP.out
            have HBF := Lib.hid (Below.chain HB.out hb5); have HN9 := Lib.hid hn; have HXY := Lib.hid (And.intro hx2 (And.intro hy2 (And.intro hx3 hy3))); have HEQ := Lib.hid heq
            clear hbx hb5 hb10 hn hx2 hy2 hx3 hy3 heq hlt
            go_wp2_with fail
            refine oc_region g P P p q xb cx yb2 cy (N p) (N q) (rchB (P : Int) E p q) (rchB (P : Int) E q p) _ _ _ _ _ _ _ _ _ _ _ _ _ _ _ _ _ _ _ _ _ _ _ _ _ _ _ _ _ _ _ _ _ _ _ _ _ _ _ _ _ _ _ _ _ _ _ _ _ _ _ _ _ _ _ _ _ _ _ _ _ _ _ _ _ _ _ _ _ _ _ _ _ _ _ _ _ _ _ _ _ _ _ _ _ _ _ _ _ _ _ _ _ _ _ _ _ _ _ _ _ _ _ _ _ _ _ _ _ _ _ _ _ _ _ _ _ _ _ _ _ _ _ _ _ _ _ _ _ _ _ _ HPP.out HQP.out (by omega) HEQ HN9.out.lt HXY.out.1 HXY.out.2.1 (HN9.out.nc p HPP.out) (HN9.out.nc q HQP.out) HXY.out.2.2.1 HXY.out.2.2.2 (fun W _ => KW.out W) ?_
            intro u6 u113 u114 u115 u116 u117 u118 u119 u120 u121 u122 u123 u124 u125 u126 u127 u128 u129 u130 u131 u132 u133 u134 u135 w9 b9 h0 h1 h2 h3 h4 h5 h6 h7 h8 h9 h10 h11 h12 h13 h14 h15 h16 h17 h18 h19 h20 h21 h22 h23
            clear h0 h1 h2 h3 h4 h5 h6 h7 h8 h9 h10 h11 h12 h13 h14 h15 h16 h17 h18 h19 h20 h21 h22
            subst h23
            have HB11 := Lib.hid (Below.chain HBF.out b9)
            clear b9
            unfold ocAct
            go_wp2_with fail
            go_ret
            exact ⟨rfl, HB11.out⟩
end Go.Proofs.Ytjjkabgbcflipaa
