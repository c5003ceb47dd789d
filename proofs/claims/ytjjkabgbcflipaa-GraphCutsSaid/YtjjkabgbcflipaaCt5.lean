import Derived.Test.YtjjkabgbcflipaaCt4
import Derived.Test.YtjjkabgbcflipaaCu27
set_option linter.unusedSimpArgs false
set_option linter.unusedVariables false
namespace Go.Proofs.Ytjjkabgbcflipaa
open Go Go.Proofs Go.RowKit GM

attribute [local go_sem] Oper.semAt_some

theorem trueF_cnt (f : Nat → Bool) : ∀ P : Nat, trueF f P = cntT f P
  | 0 => rfl
  | n + 1 => by rw [trueF_succ, trueF_cnt f n]; rfl
theorem imm_step (f : Nat → Nat → Bool) (P q d : Nat) : immF f P q (d + 1) = if (((d : Int) != (q : Int)) && f q d && (decide (immF f P q d < 0) || decide (trueF (f (immF f P q d).toNat) P < trueF (f d) P))) = true then (d : Int) else immF f P q d := by
  have h : ((((d : Int) != (q : Int)) && f q d && (decide (immF f P q d < 0) || decide (trueF (f (immF f P q d).toNat) P < trueF (f d) P))) = true) ↔ (d ≠ q ∧ f q d = true ∧ (immF f P q d < 0 ∨ cntT (f (immF f P q d).toNat) P < cntT (f d) P)) := by
    rw [Bool.and_eq_true, Bool.and_eq_true, bne_iff_ne, Bool.or_eq_true, decide_eq_true_iff, decide_eq_true_iff, trueF_cnt, trueF_cnt, and_assoc]
    exact and_congr_left fun _ => by omega
  conv => lhs; unfold immF
  by_cases hc : d ≠ q ∧ f q d = true ∧ (immF f P q d < 0 ∨ cntT (f (immF f P q d).toNat) P < cntT (f d) P)
  · rw [if_pos hc, if_pos (h.2 hc)]
  · rw [if_neg hc, if_neg (fun k => hc (h.1 k))]
theorem imm_lt (f : Nat → Nat → Bool) {P q d : Nat} (hd : d ≤ P) : -1 ≤ immF f P q d ∧ immF f P q d < P := by
  rcases immF_ok f P q d with ⟨h, -⟩ | ⟨p, hp, h, -⟩ <;> rw [h] <;> omega
theorem NmAt.made (W : World) (P : Nat) : NmAt (W.alloc (.cells (Array.replicate P (.int .i64 0)) 3)) W.heap.size P (fun _ => 0) :=
  ⟨fun k hk => made_cell W P (.int .i64 0) 3 k hk, fun k => made_free W P (.int .i64 0) 3 k, by simp⟩
/-- What Immediate answers. -/
def ImQ (P : Nat) (E : List Ed) (r : Nat) (w : World) : Ending → World → Prop := fun e w' => ∃ g f, e = .returned (.slice (some ⟨g, 0, none⟩) P P) ∧ NmAt w' g P (fun q => immF f P q P) ∧
  (∀ q d, q < P → d < P → (f q d = true ↔ Dm (nxF P E) r q d)) ∧ w.heap.size ≤ g ∧ Below w.heap.size w w'
set_option maxRecDepth 100000 in
set_option maxHeartbeats 1000000 in
theorem immediate_any {A : Nat → Prop} (P : Nat) (x : Int) (ao : Option Addr) (c : Nat) (E : List Ed) (w : World) (hr : ERow A w ao c E) (h0 : ckG P x E = 0) (r : Nat) (hrP : r < P) :
    Calls Try.prog 58 #[.agg #[.int .i64 (P : Int), .int .i64 x, .slice ao E.length c], .int .i64 (r : Int)] w (ImQ P E r w) := by
  obtain ⟨hn1, hn2, -, -⟩ := ckG_ok h0
  have k1 := fun W (hW : Below w.heap.size w W) => dominates_any P x ao c E W (hr.keep (B := A) (But.of_below (S := fun _ => False) (w' := W) hW) (fun _ h _ => ⟨id, h⟩)) h0 r hrP
  have hA : Below w.heap.size w (w.alloc (Obj.cells #[.int .i64 (P : Int), .int .i64 x, .slice ao E.length c] 24)) := (Below.refl _ _).alloc (Nat.le_refl _) _
  have hX := GBx.new w P x ao E.length c
  have HR := Lib.hid k1; have HA := Lib.hid hA; have HX := Lib.hid hX
  obtain ⟨y0, y1, y2, y3⟩ := hX
  have m0 : (0 : Int) ≤ (P : Int) := by omega
  clear hr h0 k1 hA
  go_enter Try.func58, Try.ntmps58
  go_wp2_with (first | (go_at_call 76; refine (HR.out _ HA.out).mono ?_; rintro e w1 ⟨LB, f, rfl, hD, hLB, hf, hs, hb⟩; refine Hid.out ?_) | fail)
  have HB1 := Lib.hid (Below.chain HA.out hb)
  have hX1 := HX.out.below hb
  have hLw : w.heap.size < LB := by have : (w.alloc (Obj.cells #[.int .i64 (P : Int), .int .i64 x, .slice ao E.length c] 24)).heap.size = w.heap.size + 1 := by simp
                                    omega
  have HLB := Lib.hid hLw
  clear y0 y1 y2 y3 hb HA hLB hLw
  have hmk1 := make_ints w1 P (by omega)
  have hnm := NmAt.made w1 P
  have hbN : Below w1.heap.size w1 (w1.alloc (.cells (Array.replicate P (.int .i64 0)) 3)) := (Below.refl _ _).alloc (Nat.le_refl _) _
  have HB2 := Lib.hid (Below.chain HB1.out hbN)
  have HX2 := Lib.hid (hX1.below hbN)
  have HD2 := Lib.hid (hD.below hbN)
  have HF := Lib.hid hf; have HS := Lib.hid hs; have HNM := Lib.hid hnm
  obtain ⟨y0, y1, y2, y3⟩ := hX1
  clear hD hf hs hnm hbN HX
  refine Lib.hid ?_
  go_wp2_with fail
  clear y0 y1 y2 y3 hmk1
  generalize (w1.alloc (.cells (Array.replicate P (.int .i64 0)) 3)) = W0 at *
  obtain ⟨OB, hOB⟩ : ∃ OB, w1.heap.size = OB := ⟨_, rfl⟩
  rw [hOB] at HS HNM ⊢
  clear hOB
  go_loopw [7] (fun iv wr => ∃ (q : Nat) (F : Nat → Int), q ≤ P ∧ iv = .int .i64 (q : Int) ∧ NmAt wr OB P F ∧ (∀ x, x < q → F x = immF f P x P) ∧ But (fun b => b = OB) W0 wr) (fun iv _ => P - (intOf iv).toNat)
  case atStart => exact ⟨0, _, Nat.zero_le _, rfl, HNM.out, fun x hx => absurd hx (by omega), But.refl _ _⟩
  case round =>
    obtain ⟨wr1, rfl⟩ : ∃ W1 : World, W1 = wr := ⟨_, rfl⟩
    obtain ⟨q, F, hq, rfl, hN, hF, hB⟩ := hrel
    have hwO : w.heap.size < OB := by have := HS.out; have := HLB.out; omega
    obtain ⟨y0, y1, y2, y3⟩ := HX2.out.but hB (by omega)
    by_cases hlt : q < P
    · have j1 : (q : Int) < (P : Int) := by omega
      have j0 : (0 : Int) ≤ (q : Int) := by omega
      have z0 := hN.nc q hlt; have z1 := hN.nf q
      have HN := Lib.hid (And.intro hN (And.intro hF hB)); have HLT := Lib.hid hlt; have HWO := Lib.hid hwO
      clear hN hF hB hlt hwO
      go_wp2_with fail
      go_loopw [8] (fun iv wr => ∃ (d : Nat) (F : Nat → Int), d ≤ P ∧ iv = .int .i64 (d : Int) ∧ NmAt wr OB P F ∧ (∀ x, x < q → F x = immF f P x P) ∧ F q = immF f P q d ∧ But (fun b => b = OB) W0 wr) (fun iv _ => P - (intOf iv).toNat)
      case atStart =>
        obtain ⟨hN, hF, hB⟩ := HN.out
        refine ⟨0, fun j => if j = q then -1 else F j, Nat.zero_le _, rfl, hN.set q (-1) HLT.out (fun j _ => rfl), fun x hx => ?_, ?_, hB.set _ _ (fun _ => rfl)⟩
        · simp only [if_neg (show ¬ x = q by omega)]; exact hF x hx
        · simp only [if_true]; rfl
      case round =>
        obtain ⟨wr2, rfl⟩ : ∃ W1 : World, W1 = wr := ⟨_, rfl⟩
        clear HN
        obtain ⟨d, F2, hd, rfl, hN, hF, hFq, hB⟩ := hrel
        obtain ⟨y0, y1, y2, y3⟩ := HX2.out.but hB (by have := HWO.out; omega)
        have hq2 := HLT.out
        have hDd := HD2.out.but hB (fun b e => .inl (by have := HS.out; omega))
        by_cases hlt : d < P
        · have j2 : (d : Int) < (P : Int) := by omega
          have hc := fun k (hk : k < P) (W : World) (hW : Below wr2.heap.size wr2 W) => (count_any W ((hDd.row k hk).below hW) (by omega)).mono (R' := fun e w' => e = .returned (.int .i64 (trueF (f k) P : Nat)) ∧ Below W.heap.size W w') (by rintro e w' ⟨rfl, rfl⟩; exact ⟨rfl, Below.refl _ _⟩)
          obtain ⟨hi1, hi2⟩ := imm_lt f (q := q) hd
          have hst := imm_step f P q d
          have HC := Lib.hid hc; have HST := Lib.hid hst; have HLT2 := Lib.hid hlt
          have z0 := hN.nc q hq2; have z1 := hN.nf q
          rw [hFq] at z0
          have hdm := (hDd.row q hq2).mc d hlt
          have hrl := (hDd.row q hq2).lt
          have hlb := hDd.lt; have hob := hN.lt
          have hpp : P ≤ 512 := hn2
          have HZ : Hid ((immF f P q d).toNat < P) := Lib.hid (by omega)
          have HZ2 : Hid (decide (immF f P q d < 0) = false → immF f P q d = (((immF f P q d).toNat : Nat) : Int) ∧ (immF f P q d).toNat < P) := Lib.hid (fun e => by rw [decide_eq_false_iff_not] at e; omega)
          have HH := Lib.hid (And.intro hN (And.intro hF (And.intro hFq hB))); have HTB := Lib.hid hDd.tab
          have HDM := Lib.hid hdm; have HRL := Lib.hid hrl; have HLBl := Lib.hid hlb; have HOBl := Lib.hid hob; have HZ0 := Lib.hid z0
          clear hN hF hFq hB hDd hc hst hi1 hi2 hdm hrl hlb hob
          generalize immF f P q d = ov at *
          go_wp2_with fail
          refine im_region LB OB P q d ov.toNat (trueF (f d) P) (trueF (f ov.toNat) P) ov ((d : Int) != (q : Int)) (((d : Int) != (q : Int)) && f q d) (decide (ov < 0)) (f q d) _ _ _ _ _ _ _ _ _ _ _ _ _ _ _ _ _ _ _ _ _ _ _ _ _ _ _ _ _ _ _ _ _ _ _ _ _ _ _ _ _ _ _ _ _ _ _ _ _ _ _ _ _ _ _ _ _ _ _ _ _ _ _ _ _ _ _ (Lib.hid rfl) (Lib.hid rfl) (Lib.hid rfl) HZ2 hq2 HLT2.out (by omega) HLBl.out HOBl.out HRL.out HDM.out HZ0.out HTB.out (HC.out d HLT2.out) (HC.out ov.toNat HZ.out) ?_
          intro u30 u31 u32 u33 u34 u35 u36 u37 u38 u39 u40 u41 u42 u43 u44 u45 u46 u47 u48 u49 u50 u51 u52 u53 u54 u55 u56 u57 u58 u59 u60 u61 u62 u63 u64 w5 b5 h0 h1 h2 h3 h4 h5 h6 h7 h8 h9 h10 h11 h12 h13 h14 h15 h16 h17 h18 h19 h20 h21 h22 h23 h24 h25 h26 h27 h28 h29 h30 h31 h32 h33 h34
          clear h0 h1 h2 h3 h4 h5 h6 h7 h8 h9 h10 h11 h12 h13 h14 h15 h16 h17 h18 h19 h20 h21 h22 h23 h24 h25 h26 h27 h28 h29 h30 h31 h32 h33
          have z2 := (b5.cell (p := ⟨OB, q, none⟩) HOBl.out).trans z0
          have z3 := (b5.frozen (p := ⟨OB, q, none⟩) HOBl.out).trans z1
          have HB5 := Lib.hid b5
          clear z0 z1 b5 HC HTB HDM HZ HZ2
          have hst := HST.out
          generalize (((d : Int) != (q : Int)) && f q d && (decide (ov < 0) || decide (trueF (f ov.toNat) P < trueF (f d) P))) = B at *
          subst h34
          have HST2 := Lib.hid hst
          clear hst HST
          unfold imAct
          cases B with
          | true =>
            go_wp2_with fail
            go_roundw
            case rel =>
              obtain ⟨hN, hF, hFq, hB⟩ := HH.out
              have hst := HST2.out
              rw [if_pos rfl] at hst
              refine ⟨d + 1, fun j => if j = q then (d : Int) else F2 j, HLT2.out, by go_num, (hN.below HB5.out).set q d hq2 (fun j _ => rfl), fun x hx => ?_, ?_, (hB.next HB5.out).set _ _ (fun _ => rfl)⟩
              · simp only [if_neg (show ¬ x = q by omega)]; exact hF x hx
              · simp only [if_true]; exact hst.symm
            case measure => have := HLT2.out; simp [intOf]; omega
          | false =>
            go_wp2_with fail
            go_roundw
            case rel =>
              obtain ⟨hN, hF, hFq, hB⟩ := HH.out
              have hst := HST2.out
              rw [if_neg (by simp)] at hst
              exact ⟨d + 1, F2, HLT2.out, by go_num, hN.below HB5.out, hF, hFq.trans hst.symm, hB.next HB5.out⟩
            case measure => have := HLT2.out; simp [intOf]; omega
        · have hdm : d = P := by omega
          subst hdm
          have HH := Lib.hid (And.intro hN (And.intro hF (And.intro hFq hB)))
          clear hN hF hFq hB hDd
          go_wp2_with fail
          go_roundw
          case rel =>
            obtain ⟨hN, hF, hFq, hB⟩ := HH.out
            refine ⟨q + 1, F2, hq2, by go_num, hN, fun x hx => ?_, hB⟩
            rcases Nat.lt_succ_iff_lt_or_eq.1 hx with k | k
            · exact hF x k
            · subst k; exact hFq
          case measure => simp [intOf]; omega
    · have hqm : q = P := by omega
      subst hqm
      have HH := Lib.hid (And.intro hN (And.intro hF hB)); have HWO := Lib.hid hwO
      clear hN hF hB
      go_wp2_with fail
      refine bodyPost_ret (by first | (simp [results, Try.results58, go_sem]; done) | (simp [results, Try.results58, go_sem]; rfl)) rfl ?_
      obtain ⟨hN, hF, hB⟩ := HH.out
      have hwO := HWO.out
      exact ⟨OB, f, rfl, ⟨fun k hk => by rw [hN.nc k hk, hF k hk], hN.nf, hN.lt⟩, HF.out, by omega, HB2.out.trans ⟨hB.os, hB.tape, hB.output, hB.size, fun j hj => hB.block j (by have := HB2.out.size; omega) (by omega)⟩⟩
end Go.Proofs.Ytjjkabgbcflipaa
namespace Go.Proofs.Ytjjkabgbcflipaa
open Go Go.Proofs Go.RowKit Go.Shelf GM

attribute [local go_sem] Oper.semAt_some

/-- A row of numbers that can be read, perhaps empty. -/
def IRow (W : World) (v : Value) (l : List Int) : Prop := ∃ ao c, v = .slice ao l.length c ∧ (l = [] ∨ ∃ g, ao = some ⟨g, 0, none⟩ ∧ g < W.heap.size ∧ ∀ k, k < l.length → W.cell? ⟨g, k, none⟩ = some (.int .i64 (l.getD k 0)))
theorem IRow.below {W W' : World} {v : Value} {l : List Int} (h : IRow W v l) (hb : Below W.heap.size W W') : IRow W' v l := by
  obtain ⟨ao, c, e, h⟩ := h
  refine ⟨ao, c, e, h.imp_right ?_⟩
  rintro ⟨g, e1, h1, h2⟩
  exact ⟨g, e1, Nat.lt_of_lt_of_le h1 hb.size, fun k hk => (hb.cell (p := ⟨g, k, none⟩) h1).trans (h2 k hk)⟩
theorem IRow.nil (W : World) : IRow W nilS [] := ⟨none, 0, rfl, .inl rfl⟩
theorem IRow.of_nm {g P : Nat} {W : World} {f : Nat → Int} (h : NmAt W g P f) : IRow W (.slice (some ⟨g, 0, none⟩) P P) ((List.range P).map f) := by
  refine ⟨some ⟨g, 0, none⟩, P, by simp, .inr ⟨g, rfl, h.lt, fun k hk => ?_⟩⟩
  have hk' : k < P := by simpa using hk
  rw [h.nc k hk', List.getD_eq_getElem?_getD, List.getElem?_map, List.getElem?_range hk']
  rfl
theorem eq_row {W : World} {v u : Value} {l : List Int} (h : IRow W v l) (h' : IRow W u l) (hl : l.length ≤ 100000) :
    Calls Try.prog 27 #[v, u] W fun e w' => e = .returned (.bool true) ∧ Below W.heap.size W w' := by
  obtain ⟨a1, c1, rfl, h⟩ := h
  obtain ⟨a2, c2, rfl, h'⟩ := h'
  rcases h with h | ⟨g1, rfl, -, h1⟩
  · subst h
    refine (Try.slices_Equal_int_empty a1 a2 c1 0 c2 W (by omega)).mono ?_
    rintro e w' ⟨rfl, rfl⟩
    exact ⟨rfl, Below.refl _ _⟩
  · rcases h' with h' | ⟨g2, rfl, -, h2⟩
    · subst h'
      refine (Try.slices_Equal_int_empty (some ⟨g1, 0, none⟩) a2 c1 0 c2 W (by omega)).mono ?_
      rintro e w' ⟨rfl, rfl⟩
      exact ⟨rfl, Below.refl _ _⟩
    · refine (Try.slices_Equal_int g1 0 l.length c1 g2 0 l.length c2 l l W (Nat.le_refl _) (Nat.le_refl _) (by omega) (by omega) (fun j hj => by rw [Nat.zero_add]; exact h1 j hj) (fun j hj => by rw [Nat.zero_add]; exact h2 j hj)).mono ?_
      rintro e w' ⟨rfl, q, rfl⟩
      exact ⟨by simp, below_drewN (Below.refl _ _) _⟩
/-- The immediate dominator, as a number. -/
noncomputable def idF (nx : Nat → List Nat) (r q : Nat) : Int := by
  classical
  exact if h : ∃ p, IsId nx r q p then (Classical.choose h : Nat) else -1
theorem idF_some {nx : Nat → List Nat} {r q p : Nat} (h : IsId nx r q p) : idF nx r q = (p : Int) := by
  unfold idF
  have hx : ∃ p, IsId nx r q p := ⟨p, h⟩
  rw [dif_pos hx]
  rw [h.unique (Classical.choose_spec hx)]
theorem idF_none {nx : Nat → List Nat} {r q : Nat} (h : ∀ e, e ≠ q → ¬ Dm nx r q e) : idF nx r q = -1 := by
  unfold idF
  rw [dif_neg]
  rintro ⟨p, hp⟩
  exact h p hp.1 hp.2.1
theorem DomT.id {nx : Nat → List Nat} {r P : Nat} {t : List Nat} {T : Nat → List Nat} (h : DomT nx r P t T) (q : Nat) : parF t T t q = idF nx r q := by
  rcases h.parId q with ⟨h1, h2⟩ | ⟨p, -, h1, h2⟩
  · rw [h1, idF_none h2]
  · rw [h1, idF_some h2]
theorem imm_id {nx : Nat → List Nat} {r P q : Nat} {f : Nat → Nat → Bool} (hd : ∀ x e, x < P → e < P → (f x e = true ↔ Dm nx r x e)) (hP : ∀ x, Rch nx (fun _ => False) r x → x < P) (hq : q < P) : immF f P q P = idF nx r q := by
  rcases immF_id hd hP hq with ⟨h1, h2⟩ | ⟨p, -, h1, h2⟩
  · rw [h1, idF_none h2]
  · rw [h1, idF_some h2]
theorem nxF_lt {P : Nat} {x : Int} {E : List Ed} (h : ckG P x E = 0) {b c : Nat} (hc : c ∈ nxF P E b) : c < P := by
  obtain ⟨-, -, -, hp⟩ := ckG_ok h
  by_cases hb : b < P
  · obtain ⟨j, hj, e1, e2⟩ := (nx_mem (fun d => d.f) (fun d => d.t) E hb).1 hc
    have := isPt_true (hp j hj).2
    omega
  · have : nxF P E b = [] := by unfold nxF nxt; rw [lsN_out _ _ hb]; rfl
    rw [this] at hc; simp at hc
theorem rch_lt {P : Nat} {x : Int} {E : List Ed} (h : ckG P x E = 0) {r q : Nat} (hr : r < P) {B : Nat → Prop} (g : Rch (nxF P E) B r q) : q < P := by
  cases g with
  | refl _ => exact hr
  | step _ h1 _ => exact nxF_lt h h1
theorem nxF_turn (P : Nat) (E : List Ed) : nxF P (E.map turn) = nxB P E := by
  have h1 : esN (fun d => d.t) (E.map turn) = esN (fun d => d.f) E := by unfold esN; rw [List.map_map]; rfl
  have h2 : lsN P (fun d => d.f) (E.map turn) = lsN P (fun d => d.t) E := by
    unfold lsN
    rw [List.length_map]
    apply List.map_congr_left
    intro p _
    apply List.filter_congr
    intro i hi
    rw [edD_turn (List.mem_range.1 hi)]
    rfl
  unfold nxF nxB
  rw [h1, h2]
theorem ckG_turn {P : Nat} {x : Int} {E : List Ed} (h : ckG P x E = 0) : ckG P x (E.map turn) = 0 := by
  obtain ⟨h1, h2, h3, h4⟩ := ckG_ok h
  obtain ⟨-, -, h5⟩ := ckG_pos h
  unfold ckG
  rw [if_neg (by omega), h5, if_neg (by simp), List.length_map, if_neg (by omega), if_pos]
  unfold ckEs
  rw [List.all_eq_true]
  intro d hd
  obtain ⟨d0, h0, rfl⟩ := List.mem_map.1 hd
  obtain ⟨j, hj, rfl⟩ := List.getElem_of_mem h0
  have h6 := h4 j hj
  rw [edD_eq hj] at h6
  show (isPt P E[j].t && isPt P E[j].f) = true
  rw [h6.1, h6.2]; rfl
noncomputable def domL (nx : Nat → List Ed → Nat → List Nat) (rt : Nat) (n x : Int) (E : List Ed) : List Int := if ckG n x E = 0 then (List.range n.toNat).map (idF (nx n.toNat E) rt) else []
theorem domL_len (nx : Nat → List Ed → Nat → List Nat) (rt : Nat) (n x : Int) (E : List Ed) : (domL nx rt n x E).length ≤ 100000 := by
  unfold domL
  split
  · rename_i h
    obtain ⟨h1, h2, -⟩ := ckG_pos h
    simp; omega
  · simp
/-- What the reference's Dominators answers. -/
def RDomsQ (nx : Nat → List Ed → Nat → List Nat) (rt : Nat) (n x : Int) (E : List Ed) (w : World) : Ending → World → Prop := fun e w' => Below w.heap.size w w' ∧ ∃ v, e = .returned (.tuple #[v, .int .i64 (ckG n x E : Nat)]) ∧ IRow w' v (domL nx rt n x E)
section
variable {A : Nat → Prop} (n x : Int) (ao : Option Addr) (c : Nat) (E : List Ed) (w : World) (hr : ERow A w ao c E)
include hr
theorem dom_u : Calls Try.prog 28 #[.agg #[.int .i64 n, .int .i64 x, .slice ao E.length c]] w (RDomsQ nxF 0 n x E w) := by
  refine (Dominators_any n x ao c E w hr).mono ?_
  rintro e w' ⟨hb, ⟨h, rfl⟩ | ⟨h, g, t, T, rfl, hd, hg, -⟩⟩
  · exact ⟨hb, _, rfl, by unfold domL; rw [if_neg h]; exact IRow.nil _⟩
  · refine ⟨hb, _, by rw [h]; rfl, ?_⟩
    unfold domL; rw [if_pos h]
    have e := IRow.of_nm hg
    rw [show parF t T t = idF (nxF n.toNat E) 0 from funext fun q => hd.id q] at e
    exact e
theorem pdom_u : Calls Try.prog 30 #[.agg #[.int .i64 n, .int .i64 x, .slice ao E.length c]] w (RDomsQ nxB x.toNat n x E w) := by
  refine (Postdominators_any n x ao c E w hr).mono ?_
  rintro e w' ⟨hb, ⟨h, rfl⟩ | ⟨h, g, t, T, rfl, hd, hg, -⟩⟩
  · exact ⟨hb, _, rfl, by unfold domL; rw [if_neg h]; exact IRow.nil _⟩
  · refine ⟨hb, _, by rw [h]; rfl, ?_⟩
    unfold domL; rw [if_pos h]
    have e := IRow.of_nm hg
    rw [show parF t T t = idF (nxB n.toNat E) x.toNat from funext fun q => hd.id q] at e
    exact e
end
/-- What Immediate answers, as a row. -/
def ImR (B P : Nat) (nx : Nat → List Nat) (r : Nat) (w : World) (u : Value) : Prop := ∃ g, u = .slice (some ⟨g, 0, none⟩) P P ∧ NmAt w g P (idF nx r)
theorem ImR.below {B P : Nat} {nx : Nat → List Nat} {r : Nat} {w w' : World} {u : Value} (h : ImR B P nx r w u) (hb : Below w.heap.size w w') : ImR B P nx r w' u := by
  obtain ⟨g, e, h⟩ := h
  exact ⟨g, e, h.below hb⟩
theorem ImQ.row {P : Nat} {x : Int} {E : List Ed} {r : Nat} {w w' : World} {e : Ending} (h0 : ckG P x E = 0) (hr : r < P) (h : ImQ P E r w e w') : ∃ v, e = .returned v ∧ ImR 0 P (nxF P E) r w' v ∧ Below w.heap.size w w' := by
  obtain ⟨g, f, rfl, h1, h2, -, hb⟩ := h
  exact ⟨_, rfl, ⟨g, rfl, fun k hk => by rw [h1.nc k hk, imm_id h2 (fun y g => rch_lt h0 hr g) hk], h1.nf, h1.lt⟩, hb⟩
set_option maxRecDepth 20000 in
set_option maxHeartbeats 4000000 in
theorem refDoms_any {A : Nat → Prop} (n x : Int) (ao : Option Addr) (c : Nat) (E : List Ed) (w : World) (hr : ERow A w ao c E) :
    Calls Try.prog 29 #[.agg #[.int .i64 n, .int .i64 x, .slice ao E.length c]] w (RDomsQ nxF 0 n x E w) := by
  have hA : Below w.heap.size w (w.alloc (Obj.cells #[.int .i64 n, .int .i64 x, .slice ao E.length c] 24)) := (Below.refl _ _).alloc (Nat.le_refl _) _
  have hX := GBx.new w n x ao E.length c
  have CC := fun W hW => refCheck_any n x ao c E W (hr.keep (B := A) (But.of_below (S := fun _ => False) (w' := W) hW) (fun _ h _ => ⟨id, h⟩))
  have KA' := Lib.hid hA; have HX := Lib.hid hX; have KC := Lib.hid CC; have HR := Lib.hid hr
  clear hA hX CC hr
  by_cases h0 : ckG n x E = 0
  rotate_left
  · obtain ⟨K, hK⟩ : ∃ K, ckG n x E = K := ⟨_, rfl⟩
    have HK := Lib.hid hK
    rw [hK] at h0
    have t1 : ((K : Int) != 0) = true := by rw [bne_iff_ne]; omega
    have H0 := Lib.hid h0
    clear h0 hK
    have k1 := KC.out _ KA'.out
    rw [HK.out] at k1
    have K1 := Lib.hid k1; clear k1 KC
    go_enter Try.func29, Try.ntmps29
    go_wp2_with (go_at_call 22; refine (K1.out).mono ?_; rintro e w1 ⟨rfl, hb⟩; refine Hid.out ?_)
    have HB := Lib.hid (Below.chain KA'.out hb); clear hb
    refine Lib.hid ?_
    go_wp2
    refine bodyPost_ret (by first | (simp [results, Try.results29, go_sem]; done) | (simp [results, Try.results29, go_sem]; rfl)) rfl ?_
    exact ⟨HB.out, _, by rw [HK.out], by unfold domL; rw [if_neg (by rw [HK.out]; exact H0.out)]; exact IRow.nil _⟩
  · have k1 := KC.out _ KA'.out
    rw [h0] at k1
    have K1 := Lib.hid k1; clear k1
    obtain ⟨hn1, hn2, hpx⟩ := ckG_pos h0
    obtain ⟨P, rfl⟩ := Int.eq_ofNat_of_zero_le (show 0 ≤ n by omega)
    have hx := isPt_true hpx
    obtain ⟨rx, rfl⟩ := Int.eq_ofNat_of_zero_le (show 0 ≤ x by omega)
    obtain ⟨-, -, hlen, -⟩ := ckG_ok h0
    have H0 := Lib.hid h0; have HLEN := Lib.hid hlen; have HPX := Lib.hid hx
    have hre := fun W (hW : Below w.heap.size w W) => HR.out.keep (B := A) (But.of_below (S := fun _ => False) (w' := W) hW) (fun _ h _ => ⟨id, h⟩)
    have HRE := Lib.hid hre
    clear KC h0 hlen hx hpx hre
    go_enter Try.func29, Try.ntmps29
    go_wp2_with (go_at_call 22; refine (K1.out).mono ?_; rintro e w1 ⟨rfl, hb⟩; refine Hid.out ?_)
    have HB := Lib.hid (Below.chain KA'.out hb)
    have hx1 := HX.out.below hb
    have HX1 := Lib.hid hx1
    obtain ⟨y0, y1, y2, y3⟩ := hx1
    clear hb HX
    refine Lib.hid ?_
    have k2 := immediate_any P (rx : Int) ao c E w1 (HRE.out _ HB.out) H0.out 0 (by have := HPX.out; omega)
    have K2 := Lib.hid k2
    clear k2
    go_wp2_with (first | (go_at_call 58; refine (K2.out).mono ?_; intro e w2 hq; obtain ⟨v, rfl, hv, hb⟩ := hq.row H0.out (by have := HPX.out; omega); clear hq; refine Hid.out ?_) | fail)
    have HB2 := Lib.hid (Below.chain HB.out hb); have HV := Lib.hid hv
    clear hb hv
    refine Lib.hid ?_
    go_wp2
    refine bodyPost_ret (by first | (simp [results, Try.results29, go_sem]; done) | (simp [results, Try.results29, go_sem]; rfl)) rfl ?_
    obtain ⟨g, rfl, hg⟩ := HV.out
    refine ⟨HB2.out, _, by rw [H0.out]; rfl, ?_⟩
    unfold domL; rw [if_pos H0.out]
    exact IRow.of_nm hg
/-- A turned graph. -/
def TuV (P x : Nat) (E : List Ed) (w : World) (u : Value) : Prop := ∃ bo bc, u = .agg #[.int .i64 (P : Int), .int .i64 (x : Int), .slice bo (E.map turn).length bc] ∧ ERow (fun _ => True) w bo bc (E.map turn)
theorem TuV.below {P x : Nat} {E : List Ed} {w w' : World} {u : Value} (h : TuV P x E w u) (hb : Below w.heap.size w w') : TuV P x E w' u := by
  obtain ⟨bo, bc, e, h⟩ := h
  exact ⟨bo, bc, e, h.keep (But.of_below (S := fun _ => False) hb) (fun _ h _ => ⟨id, h⟩)⟩
def rpAct (p : Nat) (a0 q4 q5 q6 q7 q8 q9 u2 u3 u10 u11 u12 u13 u14 : Value) : Act :=
  { tmps := #[a0, .pointer (some ⟨p, 0, none⟩), u2, u3, q4, q5, q6, q7, q8, q9, u10, u11, u12, u13, u14], defers := [] }
def rpI (P x : Nat) (ao : Option Addr) (c p : Nat) (E : List Ed) (a0 q4 q5 q6 q7 q8 q9 : Value) (W0 : World) (listed : Array Bool) (a : Act) (w : World) : Prop :=
  ∃ u2 u3 u10 u11 u12 u13 u14, a = rpAct p a0 q4 q5 q6 q7 q8 q9 u2 u3 u10 u11 u12 u13 u14 ∧ Below W0.heap.size W0 w ∧
    (listed.getD 0 false = true → u10 = .agg #[.int .i64 (P : Int), .int .i64 (x : Int), .slice ao E.length c]) ∧
    (listed.getD 1 false = true → TuV P x E w u11) ∧
    (listed.getD 2 false = true → u12 = .pointer (some ⟨p, 1, none⟩)) ∧
    (listed.getD 3 false = true → u13 = .int .i64 (x : Int)) ∧
    (listed.getD 4 false = true → ImR 0 P (nxB P E) x w u14) ∧
    (listed.getD 5 false = true → ImR 0 P (nxB P E) x w u2) ∧
    (listed.getD 6 false = true → u3 = .int .i64 0)
set_option maxRecDepth 20000 in
set_option maxHeartbeats 4000000 in
theorem rp_region (P x : Nat) (ao : Option Addr) (c p : Nat) (E : List Ed) (a0 q4 q5 q6 q7 q8 q9 : Value) (W0 : World) (hk0 : ckG P (x : Int) E = 0) (hx : x < P) (hg : GBx W0 p (P : Int) (x : Int) ao E.length c) (hbk : ∀ W, Below W0.heap.size W0 W → Calls Try.prog 50 #[.agg #[.int .i64 (P : Int), .int .i64 (x : Int), .slice ao E.length c]] W fun e w' => ∃ bo bc, e = .returned (.agg #[.int .i64 (P : Int), .int .i64 (x : Int), .slice bo E.length bc]) ∧ EOwn W.heap.size w' (.slice bo E.length bc) (E.map turn) ∧ Below W.heap.size W w') {Q : Exit → Act → World → Prop}
    (hQ : ∀ u2 u3 u10 u11 u12 u13 u14 w, Below W0.heap.size W0 w → (u10 = .agg #[.int .i64 (P : Int), .int .i64 (x : Int), .slice ao E.length c]) → (TuV P x E w u11) → (u12 = .pointer (some ⟨p, 1, none⟩)) → (u13 = .int .i64 (x : Int)) → (ImR 0 P (nxB P E) x w u14) → (ImR 0 P (nxB P E) x w u2) → (u3 = .int .i64 0) → Q .normal (rpAct p a0 q4 q5 q6 q7 q8 q9 u2 u3 u10 u11 u12 u13 u14) w) :
    (Code.region 4 #[{ dst := some 10, op := Op.load 24 (Operand.tmp 1), type := 24, pos := "ref.go:196", after := #[], guard := none }, { dst := some 11, op := Op.call { callee := Callee.value (Operand.func 50), args := #[Operand.tmp 10], argTypes := #[24] }, type := 24, pos := "ref.go:196", after := #[{ on := 0, ground := Ground.data }], guard := none }, { dst := some 12, op := Op.fieldAddr 24 (Operand.tmp 1) 1, type := 0, pos := "ref.go:196", after := #[], guard := none }, { dst := some 13, op := Op.load 3 (Operand.tmp 12), type := 3, pos := "ref.go:196", after := #[{ on := 2, ground := Ground.data }], guard := none }, { dst := some 14, op := Op.call { callee := Callee.value (Operand.func 58), args := #[Operand.tmp 11, Operand.tmp 13], argTypes := #[24, 3] }, type := 51, pos := "ref.go:196", after := #[{ on := 1, ground := Ground.data }, { on := 3, ground := Ground.data }, { on := 1, ground := Ground.chain }], guard := none }, { dst := some 2, op := Op.assign (Operand.tmp 14), type := 51, pos := "ref.go:196", after := #[{ on := 4, ground := Ground.data }, { on := 4, ground := Ground.chain }, { on := 0, ground := Ground.phase }, { on := 1, ground := Ground.phase }, { on := 2, ground := Ground.phase }, { on := 3, ground := Ground.phase }, { on := 4, ground := Ground.phase }], guard := none }, { dst := some 3, op := Op.assign (Operand.const (Value.int IntKind.i64 0)), type := 3, pos := "ref.go:196", after := #[{ on := 5, ground := Ground.chain }, { on := 0, ground := Ground.phase }, { on := 1, ground := Ground.phase }, { on := 2, ground := Ground.phase }, { on := 3, ground := Ground.phase }, { on := 4, ground := Ground.phase }, { on := 5, ground := Ground.phase }], guard := none }] true).wp Try.prog Q (rpAct p a0 q4 q5 q6 q7 q8 q9 (nilS) (.int .i64 0) (undef) (undef) (undef) (undef) (undef)) W0 := by
  refine wp_region_inv (by kernel_rfl) (by kernel_rfl) (rpI P x ao c p E a0 q4 q5 q6 q7 q8 q9 W0) ?_ ?_ ?_
  · refine ⟨_, _, _, _, _, _, _, rfl, (Below.refl _ _).drew, ?_, ?_, ?_, ?_, ?_, ?_, ?_⟩ <;> (intro e; simp at e)
  · intro listed a w i o hI hs ho hl hd
    have hi9 : i < 7 := (Array.getElem?_eq_some_iff.1 ho).1
    obtain ⟨u2, u3, u10, u11, u12, u13, u14, rfl, hB, h0, h1, h2, h3, h4, h5, h6⟩ := hI
    have hlB := hB.size
    rcases (show i = 0 ∨ i = 1 ∨ i = 2 ∨ i = 3 ∨ i = 4 ∨ i = 5 ∨ i = 6 by omega) with rfl | rfl | rfl | rfl | rfl | rfl | rfl
    · have ho' : some _ = some o := ho
      cases ho'
      have hbw : Below w.heap.size w w := Below.refl _ _
      obtain ⟨y0, y1, y2, y3⟩ := hg.below hB
      unfold rpAct; go_simp
      exact ⟨u2, u3, .agg #[.int .i64 (P : Int), .int .i64 (x : Int), .slice ao E.length c], u11, u12, u13, u14, rfl, hB, fun _ => rfl, fun e1 => (h1 (lset_ne (by decide) e1)).below hbw, fun e2 => h2 (lset_ne (by decide) e2), fun e3 => h3 (lset_ne (by decide) e3), fun e4 => (h4 (lset_ne (by decide) e4)).below hbw, fun e5 => (h5 (lset_ne (by decide) e5)).below hbw, fun e6 => h6 (lset_ne (by decide) e6)⟩
    · have ho' : some _ = some o := ho
      cases ho'
      have d0 := hd { on := 0, ground := .data } (by simp) rfl
      have e0 := h0 d0
      subst e0
      unfold rpAct; go_simp
      refine (hbk w hB).mono ?_
      rintro e w' ⟨bo, bc, rfl, hv, hbw⟩
      exact ⟨u2, u3, .agg #[.int .i64 (P : Int), .int .i64 (x : Int), .slice ao E.length c], .agg #[.int .i64 (P : Int), .int .i64 (x : Int), .slice bo E.length bc], u12, u13, u14, rfl, Below.chain hB hbw, fun _ => rfl, fun _ => ⟨bo, bc, by rw [List.length_map], hv.row.keep (But.refl (fun _ => False) _) (fun _ _ _ => ⟨id, trivial⟩)⟩, fun e2 => h2 (lset_ne (by decide) e2), fun e3 => h3 (lset_ne (by decide) e3), fun e4 => (h4 (lset_ne (by decide) e4)).below hbw, fun e5 => (h5 (lset_ne (by decide) e5)).below hbw, fun e6 => h6 (lset_ne (by decide) e6)⟩
    · have ho' : some _ = some o := ho
      cases ho'
      have hbw : Below w.heap.size w w := Below.refl _ _
      obtain ⟨y0, y1, y2, y3⟩ := hg.below hB
      unfold rpAct; go_simp
      exact ⟨u2, u3, u10, u11, .pointer (some ⟨p, 1, none⟩), u13, u14, rfl, hB, fun e0 => h0 (lset_ne (by decide) e0), fun e1 => (h1 (lset_ne (by decide) e1)).below hbw, fun _ => rfl, fun e3 => h3 (lset_ne (by decide) e3), fun e4 => (h4 (lset_ne (by decide) e4)).below hbw, fun e5 => (h5 (lset_ne (by decide) e5)).below hbw, fun e6 => h6 (lset_ne (by decide) e6)⟩
    · have ho' : some _ = some o := ho
      cases ho'
      have d2 := hd { on := 2, ground := .data } (by simp) rfl
      have hbw : Below w.heap.size w w := Below.refl _ _
      obtain ⟨y0, y1, y2, y3⟩ := hg.below hB
      have e2 := h2 d2
      subst e2
      unfold rpAct; go_simp
      exact ⟨u2, u3, u10, u11, .pointer (some ⟨p, 1, none⟩), .int .i64 (x : Int), u14, rfl, hB, fun e0 => h0 (lset_ne (by decide) e0), fun e1 => (h1 (lset_ne (by decide) e1)).below hbw, fun e2 => h2 (lset_ne (by decide) e2), fun _ => rfl, fun e4 => (h4 (lset_ne (by decide) e4)).below hbw, fun e5 => (h5 (lset_ne (by decide) e5)).below hbw, fun e6 => h6 (lset_ne (by decide) e6)⟩
    · have ho' : some _ = some o := ho
      cases ho'
      have d1 := hd { on := 1, ground := .data } (by simp) rfl
      have d3 := hd { on := 3, ground := .data } (by simp) rfl
      have d1 := hd { on := 1, ground := .chain } (by simp) rfl
      obtain ⟨bo, bc, e1, hv⟩ := h1 d1
      have e3 := h3 d3
      subst e1 e3
      unfold rpAct; go_simp
      have hrow := hv
      have hca := immediate_any P (x : Int) bo bc (E.map turn) w hv (ckG_turn hk0) x hx
      rw [List.length_map] at hca
      refine hca.mono ?_
      intro e w' hq
      obtain ⟨v, rfl, hv2, hbw⟩ := hq.row (ckG_turn hk0) hx
      rw [nxF_turn] at hv2
      exact ⟨u2, u3, u10, .agg #[.int .i64 (P : Int), .int .i64 (x : Int), .slice bo E.length bc], u12, .int .i64 (x : Int), v, rfl, Below.chain hB hbw, fun e0 => h0 (lset_ne (by decide) e0), fun _ => TuV.below ⟨bo, bc, by rw [List.length_map], hv⟩ hbw, fun e2 => h2 (lset_ne (by decide) e2), fun _ => rfl, fun _ => hv2, fun e5 => (h5 (lset_ne (by decide) e5)).below hbw, fun e6 => h6 (lset_ne (by decide) e6)⟩
    · have ho' : some _ = some o := ho
      cases ho'
      have d4 := hd { on := 4, ground := .data } (by simp) rfl
      have d4 := hd { on := 4, ground := .chain } (by simp) rfl
      have d0 := hd { on := 0, ground := .phase } (by simp) rfl
      have d1 := hd { on := 1, ground := .phase } (by simp) rfl
      have d2 := hd { on := 2, ground := .phase } (by simp) rfl
      have d3 := hd { on := 3, ground := .phase } (by simp) rfl
      have d4 := hd { on := 4, ground := .phase } (by simp) rfl
      have hbw : Below w.heap.size w w := Below.refl _ _
      have hr := h4 d4
      have e0 := h0 d0
      have e2 := h2 d2
      have e3 := h3 d3
      subst e0 e2 e3
      unfold rpAct; go_simp
      exact ⟨u14, u3, .agg #[.int .i64 (P : Int), .int .i64 (x : Int), .slice ao E.length c], u11, .pointer (some ⟨p, 1, none⟩), .int .i64 (x : Int), u14, rfl, hB, fun _ => rfl, fun e1 => (h1 (lset_ne (by decide) e1)).below hbw, fun _ => rfl, fun _ => rfl, fun e4 => (h4 (lset_ne (by decide) e4)).below hbw, fun _ => hr, fun e6 => h6 (lset_ne (by decide) e6)⟩
    · have ho' : some _ = some o := ho
      cases ho'
      have d5 := hd { on := 5, ground := .chain } (by simp) rfl
      have d0 := hd { on := 0, ground := .phase } (by simp) rfl
      have d1 := hd { on := 1, ground := .phase } (by simp) rfl
      have d2 := hd { on := 2, ground := .phase } (by simp) rfl
      have d3 := hd { on := 3, ground := .phase } (by simp) rfl
      have d4 := hd { on := 4, ground := .phase } (by simp) rfl
      have d5 := hd { on := 5, ground := .phase } (by simp) rfl
      have hbw : Below w.heap.size w w := Below.refl _ _
      have e0 := h0 d0
      have e2 := h2 d2
      have e3 := h3 d3
      subst e0 e2 e3
      unfold rpAct; go_simp
      exact ⟨u2, .int .i64 0, .agg #[.int .i64 (P : Int), .int .i64 (x : Int), .slice ao E.length c], u11, .pointer (some ⟨p, 1, none⟩), .int .i64 (x : Int), u14, rfl, hB, fun _ => rfl, fun e1 => (h1 (lset_ne (by decide) e1)).below hbw, fun _ => rfl, fun _ => rfl, fun e4 => (h4 (lset_ne (by decide) e4)).below hbw, fun e5 => (h5 (lset_ne (by decide) e5)).below hbw, fun _ => rfl⟩
  · rintro listed a w ⟨u2, u3, u10, u11, u12, u13, u14, rfl, hB, h0, h1, h2, h3, h4, h5, h6⟩ hall
    exact hQ _ _ _ _ _ _ _ w hB (h0 (hall 0 (by decide))) (h1 (hall 1 (by decide))) (h2 (hall 2 (by decide))) (h3 (hall 3 (by decide))) (h4 (hall 4 (by decide))) (h5 (hall 5 (by decide))) (h6 (hall 6 (by decide)))
set_option maxRecDepth 20000 in
set_option maxHeartbeats 4000000 in
theorem refPdoms_any {A : Nat → Prop} (n x : Int) (ao : Option Addr) (c : Nat) (E : List Ed) (w : World) (hr : ERow A w ao c E) :
    Calls Try.prog 31 #[.agg #[.int .i64 n, .int .i64 x, .slice ao E.length c]] w (RDomsQ nxB x.toNat n x E w) := by
  have hA : Below w.heap.size w (w.alloc (Obj.cells #[.int .i64 n, .int .i64 x, .slice ao E.length c] 24)) := (Below.refl _ _).alloc (Nat.le_refl _) _
  have hX := GBx.new w n x ao E.length c
  have CC := fun W hW => refCheck_any n x ao c E W (hr.keep (B := A) (But.of_below (S := fun _ => False) (w' := W) hW) (fun _ h _ => ⟨id, h⟩))
  have KA' := Lib.hid hA; have HX := Lib.hid hX; have KC := Lib.hid CC; have HR := Lib.hid hr
  clear hA hX CC hr
  by_cases h0 : ckG n x E = 0
  rotate_left
  · obtain ⟨K, hK⟩ : ∃ K, ckG n x E = K := ⟨_, rfl⟩
    have HK := Lib.hid hK
    rw [hK] at h0
    have t1 : ((K : Int) != 0) = true := by rw [bne_iff_ne]; omega
    have H0 := Lib.hid h0
    clear h0 hK
    have k1 := KC.out _ KA'.out
    rw [HK.out] at k1
    have K1 := Lib.hid k1; clear k1 KC
    go_enter Try.func31, Try.ntmps31
    go_wp2_with (go_at_call 22; refine (K1.out).mono ?_; rintro e w1 ⟨rfl, hb⟩; refine Hid.out ?_)
    have HB := Lib.hid (Below.chain KA'.out hb); clear hb
    refine Lib.hid ?_
    go_wp2
    refine bodyPost_ret (by first | (simp [results, Try.results31, go_sem]; done) | (simp [results, Try.results31, go_sem]; rfl)) rfl ?_
    exact ⟨HB.out, _, by rw [HK.out], by unfold domL; rw [if_neg (by rw [HK.out]; exact H0.out)]; exact IRow.nil _⟩
  · have k1 := KC.out _ KA'.out
    rw [h0] at k1
    have K1 := Lib.hid k1; clear k1
    obtain ⟨hn1, hn2, hpx⟩ := ckG_pos h0
    obtain ⟨P, rfl⟩ := Int.eq_ofNat_of_zero_le (show 0 ≤ n by omega)
    have hx := isPt_true hpx
    obtain ⟨rx, rfl⟩ := Int.eq_ofNat_of_zero_le (show 0 ≤ x by omega)
    obtain ⟨-, -, hlen, -⟩ := ckG_ok h0
    have H0 := Lib.hid h0; have HLEN := Lib.hid hlen; have HPX := Lib.hid hx
    have hre := fun W (hW : Below w.heap.size w W) => HR.out.keep (B := A) (But.of_below (S := fun _ => False) (w' := W) hW) (fun _ h _ => ⟨id, h⟩)
    have HRE := Lib.hid hre
    clear KC h0 hlen hx hpx hre
    go_enter Try.func31, Try.ntmps31
    go_wp2_with (go_at_call 22; refine (K1.out).mono ?_; rintro e w1 ⟨rfl, hb⟩; refine Hid.out ?_)
    have HB := Lib.hid (Below.chain KA'.out hb)
    have hx1 := HX.out.below hb
    have HX1 := Lib.hid hx1
    obtain ⟨y0, y1, y2, y3⟩ := hx1
    clear hb HX
    refine Lib.hid ?_
    go_wp2_with fail
    refine rp_region P rx ao c w.heap.size E _ _ _ _ _ _ _ w1 H0.out (by have := HPX.out; omega) HX1.out (fun W hW => turned_any (P : Int) (rx : Int) ao c E W (HRE.out _ (Below.chain HB.out hW)) HLEN.out) ?_
    intro u2 u3 u10 u11 u12 u13 u14 w2 hb h0 h1 h2 h3 h4 h5 h6
    obtain ⟨g, e5, hg⟩ := h5
    have HB3 := Lib.hid (Below.chain HB.out hb)
    clear h0 h1 h2 h3 h4 hb
    subst e5 h6
    unfold rpAct
    go_wp2
    refine bodyPost_ret (by first | (simp [results, Try.results31, go_sem]; done) | (simp [results, Try.results31, go_sem]; rfl)) rfl ?_
    refine ⟨HB3.out, _, by rw [H0.out]; rfl, ?_⟩
    unfold domL; rw [if_pos H0.out, Int.toNat_natCast]
    exact IRow.of_nm hg
set_option maxRecDepth 100000 in
set_option maxHeartbeats 1000000 in
theorem graphDominators_walk {A : Nat → Prop} (n x : Int) (ao : Option Addr) (c : Nat) (E : List Ed) (w : World) (hr : ERow A w ao c E) :
    Calls Try.prog 6 #[.agg #[.int .i64 n, .int .i64 x, .slice ao E.length c]] w fun e w' => e = .returned (.bool true) ∧ Below w.heap.size w w' := by
  have hA : Below w.heap.size w (w.alloc (Obj.cells #[.int .i64 n, .int .i64 x, .slice ao E.length c] 24)) := (Below.refl _ _).alloc (Nat.le_refl _) _
  have hX := GBx.new w n x ao E.length c
  have HB := Lib.hid hA; have HX := Lib.hid hX
  have hR := fun W (hW : Below w.heap.size w W) => hr.keep (B := A) (But.of_below (S := fun _ => False) (w' := W) hW) (fun _ h _ => ⟨id, h⟩)
  have HR := Lib.hid hR
  have KF := Lib.hid (few_any n x ao c E (w.alloc (Obj.cells #[.int .i64 n, .int .i64 x, .slice ao E.length c] 24)))
  have KW := Lib.hid awake_any
  obtain ⟨y0, y1, y2, y3⟩ := hX
  clear hA hr hR
  cases hf : fewG n E with
  | false =>
    rw [hf] at KF
    go_enter Try.func6, Try.ntmps6
    go_wp2_with (first | (go_at_call 13; refine (KF.out).mono ?_; rintro e w1 ⟨rfl, hb⟩; refine Hid.out ?_) | fail)
    have HB1 := Lib.hid (Below.chain HB.out hb); clear hb HB
    refine Lib.hid ?_
    go_wp2_with (first | (go_at_call 14; refine (KW.out _).mono ?_; rintro e w2 ⟨rfl, hb⟩; refine Hid.out ?_) | fail)
    have HB2 := Lib.hid (Below.chain HB1.out hb); clear hb
    refine Lib.hid ?_
    go_wp2_with fail
    go_ret
    exact ⟨rfl, HB2.out⟩
  | true =>
    rw [hf] at KF
    go_enter Try.func6, Try.ntmps6
    go_wp2_with (first | (go_at_call 13; refine (KF.out).mono ?_; rintro e w1 ⟨rfl, hb⟩; refine Hid.out ?_) | fail)
    have hx1 := HX.out.below hb; clear HX; have HX := Lib.hid hx1
    have hb1 := Below.chain HB.out hb; clear HB; have HB := Lib.hid hb1
    clear hb hx1 hb1 y0 y1 y2 y3 KF
    have HK := Lib.hid (dom_u n x ao c E w1 (HR.out _ HB.out))
    obtain ⟨y0, y1, y2, y3⟩ := HX.out
    refine Lib.hid ?_
    go_wp2_with (first | (go_at_call 28; refine (HK.out).mono ?_; rintro e w2 ⟨hb, v0, rfl, ht⟩; refine Hid.out ?_) | fail)
    have hx1 := HX.out.below hb; clear HX; have HX := Lib.hid hx1
    have hb1 := Below.chain HB.out hb; clear HB; have HB := Lib.hid hb1
    have T0 := Lib.hid ht
    clear hb hx1 hb1 y0 y1 y2 y3 HK ht
    have HK := Lib.hid (refDoms_any n x ao c E w2 (HR.out _ HB.out))
    obtain ⟨y0, y1, y2, y3⟩ := HX.out
    refine Lib.hid ?_
    go_wp2_with (first | (go_at_call 29; refine (HK.out).mono ?_; rintro e w3 ⟨hb, v1, rfl, ht⟩; refine Hid.out ?_) | fail)
    have hx1 := HX.out.below hb; clear HX; have HX := Lib.hid hx1
    have hb1 := Below.chain HB.out hb; clear HB; have HB := Lib.hid hb1
    have T0x := Lib.hid (T0.out.below hb); clear T0; have T0 := T0x; clear T0x
    have T1 := Lib.hid ht
    clear hb hx1 hb1 y0 y1 y2 y3 HK ht
    have HK := Lib.hid (pdom_u n x ao c E w3 (HR.out _ HB.out))
    obtain ⟨y0, y1, y2, y3⟩ := HX.out
    refine Lib.hid ?_
    go_wp2_with (first | (go_at_call 30; refine (HK.out).mono ?_; rintro e w4 ⟨hb, v2, rfl, ht⟩; refine Hid.out ?_) | fail)
    have hx1 := HX.out.below hb; clear HX; have HX := Lib.hid hx1
    have hb1 := Below.chain HB.out hb; clear HB; have HB := Lib.hid hb1
    have T0x := Lib.hid (T0.out.below hb); clear T0; have T0 := T0x; clear T0x
    have T1x := Lib.hid (T1.out.below hb); clear T1; have T1 := T1x; clear T1x
    have T2 := Lib.hid ht
    clear hb hx1 hb1 y0 y1 y2 y3 HK ht
    have HK := Lib.hid (refPdoms_any n x ao c E w4 (HR.out _ HB.out))
    obtain ⟨y0, y1, y2, y3⟩ := HX.out
    refine Lib.hid ?_
    go_wp2_with (first | (go_at_call 31; refine (HK.out).mono ?_; rintro e w5 ⟨hb, v3, rfl, ht⟩; refine Hid.out ?_) | fail)
    have hx1 := HX.out.below hb; clear HX; have HX := Lib.hid hx1
    have hb1 := Below.chain HB.out hb; clear HB; have HB := Lib.hid hb1
    have T0x := Lib.hid (T0.out.below hb); clear T0; have T0 := T0x; clear T0x
    have T1x := Lib.hid (T1.out.below hb); clear T1; have T1 := T1x; clear T1x
    have T2x := Lib.hid (T2.out.below hb); clear T2; have T2 := T2x; clear T2x
    have T3 := Lib.hid ht
    clear hb hx1 hb1 y0 y1 y2 y3 HK ht
    have t1 : ((ckG n x E : Int) == (ckG n x E : Int)) = true := by simp
    refine Lib.hid ?_
    go_wp2_with (first | (go_at_call 14; refine (KW.out _).mono ?_; rintro e w6 ⟨rfl, hb⟩; refine Hid.out ?_) | fail)
    have hb1 := Below.chain HB.out hb; clear HB; have HB := Lib.hid hb1
    have T0x := Lib.hid (T0.out.below hb); clear T0; have T0 := T0x; clear T0x
    have T1x := Lib.hid (T1.out.below hb); clear T1; have T1 := T1x; clear T1x
    have T2x := Lib.hid (T2.out.below hb); clear T2; have T2 := T2x; clear T2x
    have T3x := Lib.hid (T3.out.below hb); clear T3; have T3 := T3x; clear T3x
    have HE := Lib.hid (eq_row T0.out T1.out (domL_len ..))
    clear hb hb1
    refine Lib.hid ?_
    go_wp2_with (first | (go_at_call 27; refine (HE.out).mono ?_; rintro e w7 ⟨rfl, hb⟩; refine Hid.out ?_) | fail)
    have hb1 := Below.chain HB.out hb; clear HB; have HB := Lib.hid hb1
    have HE2 := Lib.hid (eq_row (T2.out.below hb) (T3.out.below hb) (domL_len ..))
    clear hb hb1
    refine Lib.hid ?_
    go_wp2_with (first | (go_at_call 27; refine (HE2.out).mono ?_; rintro e w8 ⟨rfl, hb⟩; refine Hid.out ?_) | fail)
    have hb1 := Below.chain HB.out hb; clear HB; have HB := Lib.hid hb1
    clear hb hb1
    refine Lib.hid ?_
    go_wp2_with fail
    refine bodyPost_ret (by first | (simp [results, Try.results6, go_sem]; done) | (simp [results, Try.results6, go_sem]; rfl)) rfl ?_
    exact ⟨rfl, HB.out⟩
end Go.Proofs.Ytjjkabgbcflipaa
