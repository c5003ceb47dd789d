import Derived.Test.YtjjkabgbcflipaaHe4
import Derived.Test.YtjjkabgbcflipaaCu16
import Derived.Test.YtjjkabgbcflipaaCu20
set_option linter.unusedSimpArgs false
set_option linter.unusedVariables false
namespace Go.Proofs.Ytjjkabgbcflipaa
open Go Go.Proofs Go.RowKit Go.Shelf GM

attribute [local go_sem] Oper.semAt_some
set_option maxRecDepth 100000 in
set_option maxHeartbeats 1000000 in
theorem wpList_slice_ed {ops : Array Oper} {rest : List Oper} {op : Oper} {a : Act} {W : World} {Q : Exit → Act → World → Prop} (y : Operand) (hgd : op.guard = none) (ho : op.op = .buildSlice 22 1 #[(0, y)])
    (d : Ed) (hy : a.eval y = .agg d.cs) (h : wpList Try.prog ops Q rest (a.put op.dst (.slice (some ⟨W.heap.size, 0, none⟩) 1 1)) (W.alloc (.cells d.cs 55))) :
    wpList Try.prog ops Q (op :: rest) a W :=
  wpList_plain hgd fun _ hK => by
    obtain ⟨f, t, a2, a3, a4, a5, a6, a7, a8, s9, a10, o11, n11, c11, a12, s13, a14, o15, n15, c15, a16, o17, n17, c17, o18, n18, c18, o19, n19, c19, o20, n20, c20⟩ := d
    unfold Ed.cs at hy h
    unfold Oper.wp execOp
    simp only [ho, List.map_toArray, List.map_cons, List.map_nil, hy]
    go_simp
    exact hK _ _ h
end Go.Proofs.Ytjjkabgbcflipaa
namespace Go.Proofs.Ytjjkabgbcflipaa
open Go Go.Proofs Go.RowKit Go.Shelf GM

attribute [local go_sem] Oper.semAt_some

theorem contains_ir {A : Nat → Prop} {W : World} {v : Value} {D : List Nat} (h : IR A W v D) (hl : D.length ≤ 100000) (z : Nat) :
    Calls Try.prog 40 #[v, .int .i64 (z : Int)] W fun e w' => e = .returned (.bool (decide (z ∈ D))) ∧ Below W.heap.size W w' := by
  obtain ⟨ao, c, rfl, h⟩ := h
  rcases h with h | ⟨b, o, rfl, -, -, h⟩
  · subst h
    refine (Try.slices_Contains_int_empty ao c (z : Int) W).mono ?_
    rintro e w' ⟨rfl, rfl⟩
    exact ⟨by simp, Below.refl _ _⟩
  · refine (Try.slices_Contains_int b o D.length c (D.map fun (n : Nat) => (n : Int)) (z : Int) W (by simp) (by omega) (fun j hj => ?_)).mono ?_
    · rw [List.length_map] at hj
      rw [h j hj, List.getD_eq_getElem?_getD, List.getElem?_map, List.getElem?_eq_getElem hj]
      unfold atD
      rw [List.getD_eq_getElem?_getD, List.getElem?_eq_getElem hj]
      rfl
    · rintro e w' ⟨rfl, rfl⟩
      refine ⟨?_, Below.refl _ _⟩
      rw [List.take_of_length_le (by simp)]
      congr 2
      rw [Bool.eq_iff_iff, List.contains_iff_mem, decide_eq_true_iff, List.mem_map]
      exact ⟨fun ⟨a, h1, h2⟩ => by have e : a = z := by omega
                                   rwa [← e], fun h => ⟨z, h, rfl⟩⟩
theorem IRow.shape {W : World} {v : Value} {P : Nat} {f : Nat → Int} (h : IRow W v ((List.range P).map f)) (hP : 0 < P) : ∃ g c, v = .slice (some ⟨g, 0, none⟩) P c ∧ g < W.heap.size ∧ ∀ k, k < P → W.cell? ⟨g, k, none⟩ = some (.int .i64 (f k)) := by
  obtain ⟨ao, c, rfl, h⟩ := h
  have hl : ((List.range P).map f).length = P := by simp
  rcases h with h | ⟨g, rfl, h1, h2⟩
  · rw [h] at hl; simp at hl; omega
  · refine ⟨g, c, by rw [hl], h1, fun k hk => ?_⟩
    rw [h2 k (by rw [hl]; exact hk), List.getD_eq_getElem?_getD, List.getElem?_map, List.getElem?_range hk]; rfl
theorem ckG_of {P : Nat} {x : Int} {E : List Ed} (h1 : 1 ≤ P) (h2 : P ≤ 512) (h3 : isPt P x = true) (h4 : E.length ≤ 1024) (h5 : ∀ d ∈ E, isPt P d.f = true ∧ isPt P d.t = true) : ckG P x E = 0 := by
  unfold ckG
  rw [if_neg (by omega), h3, if_neg (by simp), if_neg (by omega), if_pos]
  unfold ckEs
  rw [List.all_eq_true]
  intro d hd
  rw [(h5 d hd).1, (h5 d hd).2]; rfl
theorem ckG_mem {P : Nat} {x : Int} {E : List Ed} (h : ckG P x E = 0) {d : Ed} (hd : d ∈ E) : isPt P d.f = true ∧ isPt P d.t = true := by
  obtain ⟨-, -, -, hp⟩ := ckG_ok h
  obtain ⟨j, hj, rfl⟩ := List.getElem_of_mem hd
  have := hp j hj
  rwa [edD_eq hj] at this
theorem nxF_mem {P p q : Nat} {E : List Ed} (hp : p < P) : q ∈ nxF P E p ↔ ∃ d ∈ E, d.f = (p : Int) ∧ d.t.toNat = q := by
  rw [nx_mem (fun d => d.f) (fun d => d.t) E hp]
  constructor
  · rintro ⟨j, hj, h1, h2⟩
    exact ⟨edD E j, edD_mem hj, h1, h2⟩
  · rintro ⟨d, hd, h1, h2⟩
    obtain ⟨j, hj, rfl⟩ := List.getElem_of_mem hd
    exact ⟨j, hj, by rw [edD_eq hj]; exact h1, by rw [edD_eq hj]; exact h2⟩
theorem nxF_src {P p q : Nat} {E : List Ed} (h : q ∈ nxF P E p) : p < P := by
  refine Nat.lt_of_not_le fun hb => ?_
  have : nxF P E p = [] := by unfold nxF nxt; rw [lsN_out _ _ (by omega)]; rfl
  rw [this] at h; simp at h
end Go.Proofs.Ytjjkabgbcflipaa
namespace Go.Proofs.Ytjjkabgbcflipaa
open Go Go.Proofs Go.RowKit GM

/-- Who is found on the way up dominates. -/
theorem up_chain {nx : Nat → List Nat} {r P p : Nat} (hP : ∀ x, Rch nx (fun _ => False) r x → x < P) (to : Int) : ∀ (k : Nat) (D : List Nat) (cur : Int), ChS nx r P p D cur → D.length + k = P + 1 → upF (idF nx r) to k cur = true → ∃ c : Nat, to = (c : Int) ∧ (c = p ∨ Dm nx r p c)
  | 0, D, cur, h, hl, _ => by have := h.len; omega
  | k + 1, D, cur, h, hl, hu => by
    unfold upF at hu
    split at hu
    · rename_i hc
      obtain ⟨c, rfl⟩ : ∃ c : Nat, cur = (c : Int) := ⟨cur.toNat, by omega⟩
      rw [Int.toNat_natCast] at hu
      exact up_chain hP to k (D ++ [c]) _ (h.next hP).1 (by rw [List.length_append, List.length_singleton]; omega) hu
    · rename_i hc
      rw [decide_eq_true_iff] at hu
      have e : cur = to := Classical.byContradiction fun q => hc ⟨hu, q⟩
      rcases h.up with ⟨h1, -⟩ | ⟨c, -, h2, -, h3, -⟩
      · omega
      · exact ⟨c, by rw [← e, h2], h3⟩
theorem rk_iff {nx : Nat → List Nat} {r P : Nat} {t : List Nat} {T : Nat → List Nat} (h : DomT nx r P t T) (q : Nat) : 0 ≤ rkF t t.length q ↔ Rch nx (fun _ => False) r q := by
  have hm : q ∈ t ↔ Rch nx (fun _ => False) r q := (h.ord.mem q).trans ⟨fun ⟨a, ha, g⟩ => by rw [List.mem_singleton] at ha; subst ha; exact g, fun g => ⟨r, by simp, g⟩⟩
  unfold rkF
  rw [List.take_length, ← hm]
  by_cases hq : q ∈ t
  · rw [if_pos hq]; simp [hq]
  · rw [if_neg hq]; simp [hq]
/-- A back edge leads to a dominator. -/
theorem back_dm {nx : Nat → List Nat} {P : Nat} {t : List Nat} {T : Nat → List Nat} (h : DomT nx 0 P t T) (hP : ∀ x, Rch nx (fun _ => False) 0 x → x < P) {d : Ed} {f s : Nat} (hf : d.f = (f : Int)) (hs : d.t = (s : Int)) (hfP : f < P) (hb : bkT P t T d = true) : Dm nx 0 f s := by
  unfold bkT bkF at hb
  rw [hf, Int.toNat_natCast, Bool.and_eq_true, decide_eq_true_iff, rk_iff h, show parF t T t = idF nx 0 from funext fun q => h.id q, hs] at hb
  obtain ⟨c, e, hc⟩ := up_chain hP (s : Int) (P + 1) [] (f : Int) (ChS.start hfP) (by simp) hb.2
  have e : s = c := by omega
  subst e
  rcases hc with hc | hc
  · subst hc; exact Dm.self hb.1
  · exact hc
theorem bkT_eq {nx : Nat → List Nat} {P : Nat} {t u : List Nat} {T U : Nat → List Nat} (h : DomT nx 0 P t T) (g : DomT nx 0 P u U) (d : Ed) : bkT P t T d = bkT P u U d := by
  have e : t = u := h.ord.det u g.ord
  subst e
  unfold bkT
  rw [show parF t T t = idF nx 0 from funext fun q => h.id q, show parF t U t = idF nx 0 from funext fun q => g.id q]
/-- What is known of a loop: its head, its points. -/
structure HdS (P : Nat) (E : List Ed) (bk : Ed → Bool) (h : Nat) (pts : List Nat) : Prop where
  hP : h < P
  lt : ∀ p ∈ pts, p < P
  hin : h ∈ pts
  sor : pts.Pairwise (· ≤ ·)
  len : pts.length ≤ 1000
  dom : ∀ p ∈ pts, h = p ∨ Dm (nxF P E) 0 p h
  ent : ∃ j, j < E.length ∧ bk (edD E j) = true ∧ (edD E j).t = (h : Int) ∧ (edD E j).f.toNat ∈ pts
  clo : ∀ d ∈ E, Rch (nxF P E) (fun _ => False) 0 d.f.toNat → d.t.toNat ≠ h → d.t.toNat ∈ pts → d.f.toNat ∈ pts
theorem nxB_of {P : Nat} {x : Int} {E : List Ed} (h0 : ckG P x E = 0) {a b : Nat} : b ∈ nxB P E a ↔ a ∈ nxF P E b := by
  constructor
  · intro h
    have ha : a < P := by rw [← nxF_turn] at h; exact nxF_src h
    rw [← nxF_turn, nxF_mem ha] at h
    obtain ⟨d, hd, h1, h2⟩ := h
    obtain ⟨f, hf, rfl⟩ := List.mem_map.1 hd
    have k := isPt_true (ckG_mem h0 hf).1
    have h1 : f.t = (a : Int) := h1
    have h2 : f.f.toNat = b := h2
    exact (nxF_mem (by omega)).2 ⟨f, hf, by omega, by omega⟩
  · intro h
    obtain ⟨f, hf, h1, h2⟩ := (nxF_mem (nxF_src h)).1 h
    have k := isPt_true (ckG_mem h0 hf).2
    rw [← nxF_turn, nxF_mem (nxF_lt h0 h)]
    exact ⟨turn f, List.mem_map.2 ⟨f, hf, rfl⟩, by show f.t = (a : Int); omega, by show f.f.toNat = b; omega⟩
theorem Rch.back {P : Nat} {x : Int} {E : List Ed} (h0 : ckG P x E = 0) {B : Nat → Prop} {a b : Nat} (h : Rch (nxB P E) B a b) : Rch (nxF P E) B b a := by
  induction h with
  | refl h => exact .refl h
  | step _ h1 h2 ih => exact Rch.cons h2 ((nxB_of h0).1 h1) ih
theorem sortN_sorted (u : List Nat) : (sortN u).Pairwise (· ≤ ·) := by
  have h := List.pairwise_mergeSort (le := fun (x y : Nat) => decide (x ≤ y)) (fun a b c h1 h2 => by rw [decide_eq_true_iff] at *; omega) (fun a b => by rw [Bool.or_eq_true, decide_eq_true_iff, decide_eq_true_iff]; omega) u
  exact h.imp (fun h => by simpa using h)
theorem hds_of {P : Nat} {x : Int} {E : List Ed} {t : List Nat} {T : Nat → List Nat} (h0 : ckG P x E = 0) (h : DomT (nxF P E) 0 P t T) {hd : Nat} {tt : List Nat} (hh : hd < P) (hne : lsP (bkT P t T) E hd ≠ [])
    (hv : VL (nxB P E) (fun y => mkL hd (rkF t t.length) y = true) (lsP (bkT P t T) E hd) tt) : HdS P E (bkT P t T) hd (sortN (hd :: tt)) := by
  obtain ⟨hn1, hn2, -, hpts⟩ := ckG_ok h0
  have hPr : ∀ y, Rch (nxF P E) (fun _ => False) 0 y → y < P := fun y g => rch_lt h0 (by omega) g
  have hmk : ∀ y, mkL hd (rkF t t.length) y = true ↔ (y = hd ∨ ¬ Rch (nxF P E) (fun _ => False) 0 y) := fun y => by
    unfold mkL
    rw [Bool.or_eq_true, beq_iff_eq, Bool.not_eq_true', decide_eq_false_iff_not, rk_iff h]
  have hrow : ∀ f ∈ lsP (bkT P t T) E hd, ∃ j, j < E.length ∧ bkT P t T (edD E j) = true ∧ (edD E j).t = (hd : Int) ∧ (edD E j).f.toNat = f := fun f hf => by
    unfold lsP at hf
    obtain ⟨j, hj, e⟩ := List.mem_map.1 hf
    obtain ⟨h1, h2⟩ := List.mem_filter.1 hj
    rw [Bool.and_eq_true, decide_eq_true_iff] at h2
    exact ⟨j, List.mem_range.1 h1, h2.1, h2.2, e⟩
  have hback : ∀ f ∈ lsP (bkT P t T) E hd, Dm (nxF P E) 0 f hd ∧ f < P := fun f hf => by
    obtain ⟨j, hj, h1, h2, h3⟩ := hrow f hf
    have k := isPt_true (hpts j hj).1
    exact ⟨back_dm h hPr (f := f) (by omega) h2 (by omega) h1, by omega⟩
  have htt : ∀ p ∈ tt, p ≠ hd ∧ Dm (nxF P E) 0 p hd ∧ p < P := fun p hp => by
    have hnm : ¬ mkL hd (rkF t t.length) p = true := hv.out p hp
    rw [hmk] at hnm
    have hpr : Rch (nxF P E) (fun _ => False) 0 p := Classical.byContradiction fun q => hnm (.inr q)
    obtain ⟨f, hf, g⟩ := (hv.mem p).1 hp
    have g2 : Rch (nxF P E) (fun y => y = hd) p f := (Rch.back h0 g).mono fun y e => by rw [hmk]; exact .inl e
    refine ⟨fun e => hnm (.inl e), ⟨hpr, fun k => (hback f hf).1.2 (k.trans g2)⟩, hPr p hpr⟩
  have hmem : ∀ p, p ∈ sortN (hd :: tt) ↔ p = hd ∨ p ∈ tt := fun p => by rw [mem_sortN, List.mem_cons]
  have hin_of : ∀ f ∈ lsP (bkT P t T) E hd, f = hd ∨ f ∈ tt := fun f hf => by
    rcases hv.takes f hf with k | k
    · rw [hmk] at k
      rcases k with k | k
      · exact .inl k
      · exact (k (hback f hf).1.1).elim
    · exact .inr k
  have hlt : ∀ p ∈ hd :: tt, p < P := fun p hp => by
    rcases List.mem_cons.1 hp with e | e
    · rw [e]; exact hh
    · exact (htt p e).2.2
  refine ⟨hh, fun p hp => hlt p (mem_sortN.1 hp), (hmem hd).2 (.inl rfl), sortN_sorted _, ?_, fun p hp => ?_, ?_, fun d hd2 hr hne2 ht => ?_⟩
  · have hnd : (hd :: tt).Nodup := List.nodup_cons.2 ⟨fun q => (htt hd q).1 rfl, hv.nodup⟩
    have := nodup_len P (hd :: tt) hnd hlt
    unfold sortN
    rw [List.length_mergeSort]
    omega
  · rcases (hmem p).1 hp with e | e
    · exact .inl e.symm
    · exact .inr (htt p e).2.1
  · obtain ⟨f, hf⟩ := List.exists_mem_of_ne_nil _ hne
    obtain ⟨j, hj, h1, h2, h3⟩ := hrow f hf
    refine ⟨j, hj, h1, h2, (hmem _).2 ?_⟩
    rw [h3]
    exact hin_of f hf
  · have ht2 : d.t.toNat ∈ tt := ((hmem _).1 ht).resolve_left hne2
    have k1 := isPt_true (ckG_mem h0 hd2).1
    have k2 := isPt_true (ckG_mem h0 hd2).2
    have hb : d.f.toNat ∈ nxB P E d.t.toNat := (nxB_of h0).2 ((nxF_mem (by omega)).2 ⟨d, hd2, by omega, rfl⟩)
    rcases hv.closed _ ht2 _ hb with q | q
    · rw [hmk] at q
      rcases q with q | q
      · exact (hmem _).2 (.inl q)
      · exact (q hr).elim
    · exact (hmem _).2 (.inr q)
end Go.Proofs.Ytjjkabgbcflipaa
namespace Go.Proofs.Ytjjkabgbcflipaa
open Go Go.Proofs Go.RowKit Go.Shelf GM

attribute [local go_sem] Oper.semAt_some

set_option maxRecDepth 100000 in
set_option maxHeartbeats 1000000 in
theorem isSorted_any {A : Nat → Prop} {W : World} {v : Value} {D : List Nat} (h : IR A W v D) (hs : D.Pairwise (· ≤ ·)) (hl : D.length ≤ 1000) (h0 : 0 < D.length) :
    Calls Try.prog 45 #[v] W fun e w' => e = .returned (.bool true) ∧ Below W.heap.size W w' := by
  obtain ⟨ao, c, rfl, h⟩ := h
  obtain ⟨b, o, rfl, hb, hc⟩ : ∃ b o, ao = some ⟨b, o, none⟩ ∧ b < W.heap.size ∧ ∀ k, k < D.length → W.cell? ⟨b, o + k, none⟩ = some (.int .i64 (atD D k : Nat)) := by
    rcases h with h | ⟨b, o, e, -, h1, h2⟩
    · rw [h] at h0; simp at h0
    · exact ⟨b, o, e, h1, h2⟩
  have hle : ∀ i, i + 1 < D.length → atD D i ≤ atD D (i + 1) := fun i hi => by
    unfold atD
    rw [List.getD_eq_getElem?_getD, List.getD_eq_getElem?_getD, List.getElem?_eq_getElem (by omega : i < D.length), List.getElem?_eq_getElem hi]
    exact List.pairwise_iff_getElem.1 hs i (i + 1) (by omega) hi (by omega)
  have HC := Lib.hid hc; have HLE := Lib.hid hle; have HB := Lib.hid hb
  obtain ⟨n, hn⟩ : ∃ n, D.length = n := ⟨_, rfl⟩
  rw [hn] at HC HLE hl h0 ⊢
  clear hc hle hb h hs hn
  have v1 : IntKind.i64.wrap ((n : Int) - 1) = (n : Int) - 1 := by rw [IntKind.wrap_i64]; omega
  go_enter Try.func45, Try.ntmps45
  go_wp2_with fail
  go_loopw [3] (fun iv wr => ∃ i : Nat, i < n ∧ iv = .int .i64 (i : Int) ∧ Below W.heap.size W wr) (fun iv _ => (intOf iv).toNat)
  case atStart => exact ⟨n - 1, by omega, by congr 1; omega, Below.refl _ _⟩
  case round =>
    obtain ⟨wr1, rfl⟩ : ∃ W1 : World, W1 = wr := ⟨_, rfl⟩
    obtain ⟨i, hi, rfl, hb⟩ := hrel
    by_cases hz : 0 < i
    · obtain ⟨j, rfl⟩ : ∃ j, i = j + 1 := ⟨i - 1, by omega⟩
      have j1 : (0 : Int) < ((j + 1 : Nat) : Int) := by omega
      have x0 := (hb.cell (p := ⟨b, o + (j + 1), none⟩) HB.out).trans (HC.out (j + 1) hi)
      have x1 := (hb.cell (p := ⟨b, o + j, none⟩) HB.out).trans (HC.out j (by omega))
      have hbl := Nat.lt_of_lt_of_le HB.out hb.size
      have HH := Lib.hid (And.intro hb (And.intro x0 (And.intro x1 hbl))); have HI := Lib.hid hi
      have v2 : IntKind.i64.wrap (((j + 1 : Nat) : Int) - 1) = ((j : Nat) : Int) := by rw [IntKind.wrap_i64]; omega
      clear hb x0 x1 hbl hi hz
      generalize hii : j + 1 = i at *
      go_wp2_with fail
      refine isr_region b o n c i j (atD D i) (atD D j) _ _ _ _ _ _ _ _ _ _ _ _ _ _ _ _ _ _ _ _ (Lib.hid hii.symm) HI.out (by omega) HH.out.2.2.2 HH.out.2.1 HH.out.2.2.1 (by have := HLE.out j (by have := HI.out; omega); rw [hii] at this; exact this) ?_
      intro u11 u12 u13 u14 u15 u16 u17 u18 u19 u20 w5 b5 h0 h1 h2 h3 h4 h5 h6 h7 h8 h9
      clear h0 h1 h2 h3 h4 h5 h6 h7 h8
      subst h9
      have HB5 := Lib.hid (Below.chain HH.out.1 b5)
      clear b5
      unfold isrAct
      go_wp2_with fail
      go_roundw
      case rel => exact ⟨j, by have := HI.out; omega, rfl, HB5.out⟩
      case measure => simp [intOf]; omega
    · have hz0 : i = 0 := by omega
      subst hz0
      have HH := Lib.hid hb
      clear hb hz
      go_wp2_with fail
      go_ret
      exact ⟨rfl, HH.out⟩
end Go.Proofs.Ytjjkabgbcflipaa
namespace Go.Proofs.Ytjjkabgbcflipaa
open Go Go.Proofs Go.RowKit Go.Shelf GM

attribute [local go_sem] Oper.semAt_some

theorem lp_get : ∀ (L : List Lp) (k : Nat) (hk : k < L.length), (lpCells L)[k * 2]? = some (.int .i64 (L[k].h : Int)) ∧ (lpCells L)[k * 2 + 1]? = some L[k].v
  | x :: L, 0, _ => ⟨rfl, rfl⟩
  | x :: L, k + 1, hk => by
    have h := lp_get L k (by simpa using hk)
    have e : lpCells (x :: L) = .int .i64 (x.h : Int) :: x.v :: lpCells L := rfl
    rw [e, show (k + 1) * 2 = k * 2 + 1 + 1 by omega]
    exact h
theorem LpAt.get {lo : Nat} {W : World} {v : Value} {L : List Lp} (h : LpAt lo W v L) (h0 : 0 < L.length) : ∃ g c, v = .slice (some ⟨g, 0, none⟩) L.length c ∧ g < W.heap.size ∧ ∀ k (hk : k < L.length), W.cell? ⟨g, k * 2, none⟩ = some (.int .i64 (L[k].h : Int)) ∧ W.cell? ⟨g, k * 2 + 1, none⟩ = some L[k].v := by
  rcases id h.own.2 with ⟨e, hz⟩ | ⟨g, cap, cur, e, hlo, hg, -⟩
  · omega
  · subst e
    refine ⟨g, cap, rfl, (Array.getElem?_eq_some_iff.1 hg).1, fun k hk => ?_⟩
    obtain ⟨h1, h2⟩ := lp_get L k hk
    exact ⟨by rw [h.own.cellAt _ (by omega)]; exact h1, by rw [h.own.cellAt _ (by omega)]; exact h2⟩
/-- What Loops and Back answer. -/
theorem loops_u {A : Nat → Prop} (P : Nat) (x : Int) (ao : Option Addr) (c : Nat) (E : List Ed) (w : World) (hr : ERow A w ao c E) (h0 : ckG P x E = 0) :
    Calls Try.prog 34 #[.agg #[.int .i64 (P : Int), .int .i64 x, .slice ao E.length c]] w fun e w' => ∃ v Ls t T, e = .returned (.tuple #[v, .int .i64 0]) ∧ DomT (nxF P E) 0 P t T ∧ LpAt w.heap.size w' v Ls ∧ Ls.length ≤ P ∧ (∀ y ∈ Ls, ∃ pts : List Nat, y.l = (pts.map fun (n : Nat) => (n : Int)) ∧ HdS P E (bkT P t T) y.h pts) ∧ Below w.heap.size w w' := by
  refine (Loops_any P x ao c E w hr).mono ?_
  rintro e w' ⟨hb, ⟨h, -⟩ | ⟨-, v, Ls, t, T, rfl, hd, hL, hok⟩⟩
  · exact (h h0).elim
  · rw [Int.toNat_natCast] at hd hok
    refine ⟨v, Ls, t, T, rfl, hd, hL, hok.len, fun y hy => ?_, hb⟩
    obtain ⟨h1, h2⟩ := hok
    have hm : y.h ∈ (List.range P).filter (fun q => !(lsP (bkT P t T) E q).isEmpty) := by rw [← h1]; exact List.mem_map.2 ⟨y, hy, rfl⟩
    obtain ⟨k1, k2⟩ := List.mem_filter.1 hm
    obtain ⟨tt, hv, hl⟩ := h2 y hy
    refine ⟨sortN (y.h :: tt), by rw [hl, sortN_map], hds_of h0 hd (List.mem_range.1 k1) (fun e => ?_) hv⟩
    rw [e] at k2; simp at k2
theorem back_u {A : Nat → Prop} (P : Nat) (x : Int) (ao : Option Addr) (c : Nat) (E : List Ed) (w : World) (hr : ERow A w ao c E) (h0 : ckG P x E = 0) {t : List Nat} {T : Nat → List Nat} (hd : DomT (nxF P E) 0 P t T) :
    Calls Try.prog 32 #[.agg #[.int .i64 (P : Int), .int .i64 x, .slice ao E.length c]] w fun e w' => ∃ v, e = .returned (.tuple #[v, .int .i64 0]) ∧ IR (fun _ => True) w' v ((List.range E.length).filter fun (i : Nat) => bkT P t T (edD E i)) ∧ Below w.heap.size w w' := by
  refine (Back_any P x ao c E w hr).mono ?_
  rintro e w' ⟨hb, ⟨h, -⟩ | ⟨-, v, u, U, rfl, hd2, hL⟩⟩
  · exact (h h0).elim
  · rw [Int.toNat_natCast] at hd2 hL
    have e : bkT P u U = bkT P t T := funext fun d => bkT_eq hd2 hd d
    rw [e] at hL
    exact ⟨v, rfl, IR.of_own hL (fun _ _ => trivial), hb⟩
theorem IR.below {A : Nat → Prop} {W W' : World} {v : Value} {l : List Nat} (h : IR A W v l) (hb : Below W.heap.size W W') : IR A W' v l := h.keep (KA.of_below hb) (fun _ h _ => h)
end Go.Proofs.Ytjjkabgbcflipaa
