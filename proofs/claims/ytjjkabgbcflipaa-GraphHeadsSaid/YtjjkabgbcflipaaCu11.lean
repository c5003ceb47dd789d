import Derived.Test.YtjjkabgbcflipaaCu10
set_option linter.unusedSimpArgs false
set_option linter.unusedVariables false
namespace Go.Proofs.Ytjjkabgbcflipaa
open Go Go.Proofs Go.RowKit GM

theorem isReached_any {P g h : Nat} {rk : Nat → Int} (w : World) (hh : NmAt w h P rk) (p : Nat) (hp : p < P) :
    Calls Try.prog 78 #[.agg #[.slice (some ⟨g, 0, none⟩) P P, .slice (some ⟨h, 0, none⟩) P P], .int .i64 (p : Int)] w fun e w' => e = .returned (.bool (decide (0 ≤ rk p))) ∧ Below w.heap.size w w' := by
  have y0 := hh.nc p hp
  have p0 : (0 : Int) ≤ (p : Int) := by omega
  have p1 : (p : Int) < (P : Int) := by omega
  have hl := hh.lt
  have y1 := fun o => (World.cell?_alloc_lt w o ⟨h, p, none⟩ hl).trans y0
  clear hh
  generalize rk p = z at *
  go_enter Try.func78, Try.ntmps78
  go_wp2
  go_ret
  exact ⟨rfl, by go_grown⟩
/-- Up the parents till a point is found. -/
def upF (par : Nat → Int) (to : Int) : Nat → Int → Bool
  | 0, p => decide (0 ≤ p)
  | k + 1, p => if 0 ≤ p ∧ p ≠ to then upF par to k (par p.toNat) else decide (0 ≤ p)
theorem upF_more {par : Nat → Int} {μ : Nat → Nat} {P : Nat} (hpar : ∀ p, p < P → 0 ≤ par p → (par p).toNat < P ∧ μ (par p).toNat < μ p) (to : Int) : ∀ (k p : Nat), p < P → μ p < k → upF par to (k + 1) p = upF par to k p := by
  intro k
  induction k with
  | zero => intro p _ h; omega
  | succ k ih =>
    intro p hp h
    have step : ∀ j, upF par to (j + 1) p = if (0 : Int) ≤ (p : Int) ∧ (p : Int) ≠ to then upF par to j (par p) else decide ((0 : Int) ≤ (p : Int)) := fun j => by
      rw [upF]; simp
    rw [step (k + 1), step k]
    split
    · by_cases e : 0 ≤ par p
      · obtain ⟨h1, h2⟩ := hpar p hp e
        have := ih (par p).toNat h1 (by omega)
        rwa [Int.toNat_of_nonneg e] at this
      · have hn : ∀ j, upF par to j (par p) = false := fun j => by
          cases j with
          | zero => rw [upF]; simpa using e
          | succ j => rw [upF, if_neg (fun x => e x.1)]; simpa using e
        rw [hn, hn]
    · rfl
def muF (μ : Nat → Nat) (z : Int) : Nat := if 0 ≤ z then μ z.toNat + 1 else 0
/-- What isBack answers. -/
def bkF (par rk : Nat → Int) (P : Nat) (f : Nat) (to : Int) : Bool := decide (0 ≤ rk f) && upF par to (P + 1) (f : Int)
set_option maxRecDepth 20000 in
set_option maxHeartbeats 4000000 in
theorem isBack_any {P g h : Nat} {par rk : Nat → Int} {μ : Nat → Nat} (w : World) (hg : NmAt w g P par) (hh : NmAt w h P rk) (hpar : ∀ p, p < P → 0 ≤ par p → (par p).toNat < P ∧ μ (par p).toNat < μ p) (hμ : ∀ p, p < P → μ p ≤ P) (d : Ed) (f : Nat) (hf : d.f = (f : Int)) (hfP : f < P) :
    Calls Try.prog 59 #[.agg #[.slice (some ⟨g, 0, none⟩) P P, .slice (some ⟨h, 0, none⟩) P P], .agg d.cs] w fun e w' => e = .returned (.bool (bkF par rk P f d.t)) ∧ Below w.heap.size w w' := by
  have CR := fun W (hW : Below w.heap.size w W) => isReached_any (g := g) W (hh.below hW) f hfP
  have bA : Below w.heap.size w ((w.alloc (Obj.cells #[.slice (some ⟨g, 0, none⟩) P P, .slice (some ⟨h, 0, none⟩) P P] 97)).alloc (.cells d.cs 55)) := ((Below.refl _ _).alloc (Nat.le_refl _) _).alloc (by simp) _
  have q5 := ed_box0 (w.alloc (Obj.cells #[.slice (some ⟨g, 0, none⟩) P P, .slice (some ⟨h, 0, none⟩) P P] 97)) d
  have q6 := ed_box1 (w.alloc (Obj.cells #[.slice (some ⟨g, 0, none⟩) P P, .slice (some ⟨h, 0, none⟩) P P] 97)) d
  rw [show (w.alloc (Obj.cells #[.slice (some ⟨g, 0, none⟩) P P, .slice (some ⟨h, 0, none⟩) P P] 97)).heap.size = w.heap.size + 1 by simp] at q5 q6
  rw [hf] at q5
  have q7 : ((w.alloc (Obj.cells #[.slice (some ⟨g, 0, none⟩) P P, .slice (some ⟨h, 0, none⟩) P P] 97)).alloc (.cells d.cs 55)).cell? ⟨w.heap.size, 0, none⟩ = some (.slice (some ⟨g, 0, none⟩) P P) := by go_cell
  have hz : ((w.alloc (Obj.cells #[.slice (some ⟨g, 0, none⟩) P P, .slice (some ⟨h, 0, none⟩) P P] 97)).alloc (.cells d.cs 55)).heap.size = w.heap.size + 1 + 1 := by simp
  have KR := Lib.hid (CR _ bA); have HB := Lib.hid bA; have HZ := Lib.hid hz; have HPAR := Lib.hid hpar; have HMU := Lib.hid hμ
  have HGA := Lib.hid (hg.below bA)
  unfold bkF
  cases hr : decide (0 ≤ rk f) with
  | false =>
    have kr := KR.out
    rw [hr] at kr
    have KR2 := Lib.hid kr
    clear CR bA hz hpar hμ hg hh kr hr
    go_enter Try.func59, Try.ntmps59
    go_wp2_with (go_at_call 78; refine (KR2.out).mono ?_; rintro e w1 ⟨rfl, hb⟩; refine Hid.out ?_)
    have HB2 := Lib.hid (Below.chain HB.out hb)
    clear hb q5 q6 q7
    refine Lib.hid ?_
    go_wp2
    go_ret
    exact ⟨rfl, HB2.out⟩
  | true =>
    have kr := KR.out
    rw [hr] at kr
    have KR2 := Lib.hid kr
    clear CR bA hpar hμ hg hh kr hr
    rw [Bool.true_and]
    obtain ⟨G, hG⟩ : ∃ G, G = upF par d.t (P + 1) (f : Int) := ⟨_, rfl⟩
    rw [← hG]
    have HG := Lib.hid hG; clear hG
    go_enter Try.func59, Try.ntmps59
    go_wp2_with (go_at_call 78; refine (KR2.out).mono ?_; rintro e w1 ⟨rfl, hb⟩; refine Hid.out ?_)
    have HB2 := Lib.hid (Below.chain HB.out hb)
    have k5 := (hb.cell (p := ⟨w.heap.size + 1, 0, none⟩) (by dsimp only; omega)).trans q5
    have k6 := (hb.cell (p := ⟨w.heap.size + 1, 1, none⟩) (by dsimp only; omega)).trans q6
    have k7 := (hb.cell (p := ⟨w.heap.size, 0, none⟩) (by dsimp only; omega)).trans q7
    have HGB := Lib.hid (HGA.out.below hb)
    clear hb q5 q6 q7 hz KR KR2
    refine Lib.hid ?_
    go_wp2_with fail
    clear k5
    generalize d.t = to_ at *
    go_loopw [5] (fun iv wr => wr = w1 ∧ ∃ (z : Int) (k : Nat), iv = .int .i64 z ∧ G = upF par to_ k z ∧ (0 ≤ z → z.toNat < P ∧ μ z.toNat < k)) (fun iv _ => muF μ (intOf iv))
    case atStart => exact ⟨rfl, (f : Int), P + 1, rfl, HG.out, fun _ => ⟨hfP, by have := HMU.out f hfP; simp; omega⟩⟩
    case round =>
      obtain ⟨rfl, z, k, rfl, hgz, hz2⟩ := hrel
      have HGZ := Lib.hid hgz; clear hgz HG
      by_cases hz0 : 0 ≤ z
      · obtain ⟨p, rfl⟩ := Int.eq_ofNat_of_zero_le hz0
        obtain ⟨hpP, hmu⟩ := hz2 hz0
        rw [Int.toNat_natCast] at hpP hmu
        have hp1 : (p : Int) < (P : Int) := by omega
        by_cases hto : (p : Int) = to_
        · have e1 : G = true := by
            rw [HGZ.out]
            cases k with
            | zero => rw [upF]; simp
            | succ k => rw [upF, if_neg (fun x => x.2 hto)]; simp
          subst e1
          have t1 : ((p : Int) != to_) = false := by rw [bne_eq_false_iff_eq]; exact hto
          clear hz2
          go_wp2
          go_ret
          exact ⟨rfl, HB2.out⟩
        · obtain ⟨k, rfl⟩ : ∃ k', k = k' + 1 := ⟨k - 1, by omega⟩
          have t1 : ((p : Int) != to_) = true := by rw [bne_iff_ne]; exact hto
          have y0 := HGB.out.nc p hpP
          have e1 : G = upF par to_ k (par p) := by rw [HGZ.out, upF, if_pos ⟨hz0, hto⟩, Int.toNat_natCast]
          have E1 := Lib.hid e1
          have hnx : 0 ≤ par p → (par p).toNat < P ∧ μ (par p).toNat < μ p := fun e => HPAR.out p hpP e
          have HNX := Lib.hid hnx
          clear hz2 e1 hnx HGZ
          generalize hpar : par p = z2 at *
          have HPP := Lib.hid hpar; clear hpar
          go_wp2
          go_roundw
          case rel => exact ⟨trivial, z2, k, rfl, E1.out, fun e => ⟨(HNX.out e).1, by have := (HNX.out e).2; omega⟩⟩
          case measure =>
            show muF μ z2 < muF μ (p : Int)
            unfold muF
            rw [if_pos hz0, Int.toNat_natCast]
            split
            · next e => have := (HNX.out e).2; omega
            · omega
      · have e1 : G = false := by
          rw [HGZ.out]
          cases k with
          | zero => rw [upF]; simpa using hz0
          | succ k => rw [upF, if_neg (fun x => hz0 x.1)]; simpa using hz0
        subst e1
        have t0 : decide (0 ≤ z) = false := by simpa using hz0
        clear hz2
        go_wp2
        go_ret
        exact ⟨rfl, HB2.out⟩
end Go.Proofs.Ytjjkabgbcflipaa
namespace Go.Proofs.Ytjjkabgbcflipaa
open Go Go.Proofs Go.RowKit GM

def muT (t : List Nat) (q : Nat) : Nat := if q ∈ t then t.length - t.idxOf q else 0
theorem parF_some {t : List Nat} {T : Nat → List Nat} {s : List Nat} {q : Nat} (h : 0 ≤ parF t T s q) : q ∈ t ∧ ∃ p ∈ s, parF t T s q = (p : Int) ∧ q ≠ p ∧ q ∉ T p := by
  induction s with
  | nil => rw [parF_nil] at h; omega
  | cons p s ih =>
    rw [parF_cons] at h ⊢
    split at h
    · next c =>
      rw [if_pos c]
      simp only [not_or] at c
      exact ⟨c.1, p, List.mem_cons_self .., rfl, c.2.1, c.2.2⟩
    · next c =>
      rw [if_neg c]
      obtain ⟨h1, p', h2, h3⟩ := ih h
      exact ⟨h1, p', List.mem_cons_of_mem _ h2, h3⟩
theorem DomT.par {nx : Nat → List Nat} {r P : Nat} {t : List Nat} {T : Nat → List Nat} (h : DomT nx r P t T) : ∀ q, q < P → 0 ≤ parF t T t q → (parF t T t q).toNat < P ∧ muT t (parF t T t q).toNat < muT t q := by
  intro q _ hq
  obtain ⟨h1, p, h2, h3, h4, h5⟩ := parF_some hq
  rw [h3, Int.toNat_natCast]
  refine ⟨h.lt p h2, ?_⟩
  have hn : ¬ ∃ z ∈ [r], Rch nx (fun x => False ∨ x = p) z q := fun ⟨z, hz, hr⟩ => h5 (((h.wo p h2).mem q).2 ⟨z, hz, hr.mono fun x e => Or.inr e⟩)
  have hle := (Le.idx h.ord.nodup).1 (h.ord.over p h2 q h1 hn)
  have hne : t.idxOf q ≠ t.idxOf p := fun e => h4 (by
    have a1 := List.getElem_idxOf (List.idxOf_lt_length_of_mem h1)
    have a2 := List.getElem_idxOf (List.idxOf_lt_length_of_mem h2)
    rw [← a1, ← a2]; congr 1)
  have l1 := List.idxOf_lt_length_of_mem h1
  have l2 := List.idxOf_lt_length_of_mem h2
  unfold muT
  rw [if_pos h1, if_pos h2]
  omega
theorem DomT.mu {nx : Nat → List Nat} {r P : Nat} {t : List Nat} {T : Nat → List Nat} (h : DomT nx r P t T) : ∀ q, q < P → muT t q ≤ P := by
  intro q _
  have := h.len
  unfold muT; split <;> omega
def DomsQ (nx : Nat → Nat → List Ed → (Nat → List Nat)) (rt : Int → Nat) (n x : Int) (E : List Ed) (w : World) : Ending → World → Prop := fun e w' => Below w.heap.size w w' ∧
  ((ckG n x E ≠ 0 ∧ e = .returned (.tuple #[nilS, .int .i64 (ckG n x E : Nat)])) ∨
   (ckG n x E = 0 ∧ ∃ g t T, e = .returned (.tuple #[.slice (some ⟨g, 0, none⟩) n.toNat n.toNat, .int .i64 0]) ∧ DomT (nx n.toNat n.toNat E) (rt x) n.toNat t T ∧ NmAt w' g n.toNat (parF t T t) ∧ w.heap.size ≤ g))
theorem run_field_dom0 (a b : Value) (W : World) : (Instr.field 97 (.agg #[a, b]) 0).run Try.prog W = .ok a W := by
  unfold Instr.field
  simp [go_sem, run_underlying Try.underlying97, part, isAgg, asAgg, run_underlying Try.underlying51]
def PdV (B P : Nat) (es : List Nat) (ls : List (List Nat)) (w : World) (u : Value) : Prop := ∃ ve vl, u = .agg #[ve, vl] ∧ VR (fun b => B ≤ b) w ve vl P es ls
def PdR (B P : Nat) (nx : Nat → List Nat) (r : Nat) (w : World) (u : Value) : Prop := ∃ g t T, u = .slice (some ⟨g, 0, none⟩) P P ∧ DomT nx r P t T ∧ NmAt w g P (parF t T t) ∧ B ≤ g
def PdP (B P : Nat) (nx : Nat → List Nat) (r : Nat) (w : World) (u : Value) : Prop := ∃ v h, u = .agg #[v, h] ∧ PdR B P nx r w v
theorem PdV.below {B P : Nat} {es : List Nat} {ls : List (List Nat)} {w w' : World} {u : Value} (h : PdV B P es ls w u) (hb : Below w.heap.size w w') : PdV B P es ls w' u := by
  obtain ⟨ve, vl, e, h⟩ := h
  exact ⟨ve, vl, e, h.keep (KA.of_below hb) (fun _ h _ => h)⟩
theorem PdR.below {B P : Nat} {nx : Nat → List Nat} {r : Nat} {w w' : World} {u : Value} (h : PdR B P nx r w u) (hb : Below w.heap.size w w') : PdR B P nx r w' u := by
  obtain ⟨g, t, T, e, h1, h2, h3⟩ := h
  exact ⟨g, t, T, e, h1, h2.below hb, h3⟩
theorem PdP.below {B P : Nat} {nx : Nat → List Nat} {r : Nat} {w w' : World} {u : Value} (h : PdP B P nx r w u) (hb : Below w.heap.size w w') : PdP B P nx r w' u := by
  obtain ⟨v, k, e, h⟩ := h
  exact ⟨v, k, e, h.below hb⟩
def pdAct (p : Nat) (a0 q4 q5 q6 q7 q8 q9 u2 u3 u10 u11 u12 u13 u14 u15 : Value) : Act :=
  { tmps := #[a0, .pointer (some ⟨p, 0, none⟩), u2, u3, q4, q5, q6, q7, q8, q9, u10, u11, u12, u13, u14, u15], defers := [] }
def pdI (P x : Nat) (ao : Option Addr) (c p : Nat) (E : List Ed) (a0 q4 q5 q6 q7 q8 q9 : Value) (W0 : World) (listed : Array Bool) (a : Act) (w : World) : Prop :=
  ∃ u2 u3 u10 u11 u12 u13 u14 u15, a = pdAct p a0 q4 q5 q6 q7 q8 q9 u2 u3 u10 u11 u12 u13 u14 u15 ∧ Below W0.heap.size W0 w ∧
    (listed.getD 0 false = true → u10 = .agg #[.int .i64 (P : Int), .int .i64 (x : Int), .slice ao E.length c]) ∧
    (listed.getD 1 false = true → PdV W0.heap.size P (esN (fun d => d.f) E) (lsN P (fun d => d.t) E) w u11) ∧
    (listed.getD 2 false = true → u12 = .pointer (some ⟨p, 1, none⟩)) ∧
    (listed.getD 3 false = true → u13 = .int .i64 (x : Int)) ∧
    (listed.getD 4 false = true → PdP W0.heap.size P (nxt (esN (fun d => d.f) E) (lsN P (fun d => d.t) E)) x w u14) ∧
    (listed.getD 5 false = true → PdR W0.heap.size P (nxt (esN (fun d => d.f) E) (lsN P (fun d => d.t) E)) x w u15) ∧
    (listed.getD 6 false = true → PdR W0.heap.size P (nxt (esN (fun d => d.f) E) (lsN P (fun d => d.t) E)) x w u2) ∧
    (listed.getD 7 false = true → u3 = .int .i64 0)
set_option maxRecDepth 20000 in
set_option maxHeartbeats 4000000 in
theorem pd_region (P x : Nat) (ao : Option Addr) (c p : Nat) (E : List Ed) (a0 q4 q5 q6 q7 q8 q9 : Value) (W0 : World) (hP0 : P ≤ 512) (hx : x < P) (hlen : E.length ≤ 1024) (hg : GBx W0 p (P : Int) (x : Int) ao E.length c) (hbk : ∀ W, Below W0.heap.size W0 W → Calls Try.prog 49 #[.agg #[.int .i64 (P : Int), .int .i64 (x : Int), .slice ao E.length c]] W fun e w' => ∃ ve vl, e = .returned (.agg #[ve, vl]) ∧ VR (fun b => W.heap.size ≤ b) w' ve vl P (esN (fun d => d.f) E) (lsN P (fun d => d.t) E) ∧ Below W.heap.size W w') {Q : Exit → Act → World → Prop}
    (hQ : ∀ u2 u3 u10 u11 u12 u13 u14 u15 w, Below W0.heap.size W0 w → (u10 = .agg #[.int .i64 (P : Int), .int .i64 (x : Int), .slice ao E.length c]) → (PdV W0.heap.size P (esN (fun d => d.f) E) (lsN P (fun d => d.t) E) w u11) → (u12 = .pointer (some ⟨p, 1, none⟩)) → (u13 = .int .i64 (x : Int)) → (PdP W0.heap.size P (nxt (esN (fun d => d.f) E) (lsN P (fun d => d.t) E)) x w u14) → (PdR W0.heap.size P (nxt (esN (fun d => d.f) E) (lsN P (fun d => d.t) E)) x w u15) → (PdR W0.heap.size P (nxt (esN (fun d => d.f) E) (lsN P (fun d => d.t) E)) x w u2) → (u3 = .int .i64 0) → Q .normal (pdAct p a0 q4 q5 q6 q7 q8 q9 u2 u3 u10 u11 u12 u13 u14 u15) w) :
    (Code.region 4 #[{ dst := some 10, op := Op.load 24 (Operand.tmp 1), type := 24, pos := "graph.go:84", after := #[], guard := none }, { dst := some 11, op := Op.call { callee := Callee.value (Operand.func 49), args := #[Operand.tmp 10], argTypes := #[24] }, type := 89, pos := "graph.go:84", after := #[{ on := 0, ground := Ground.data }], guard := none }, { dst := some 12, op := Op.fieldAddr 24 (Operand.tmp 1) 1, type := 0, pos := "graph.go:84", after := #[], guard := none }, { dst := some 13, op := Op.load 3 (Operand.tmp 12), type := 3, pos := "graph.go:84", after := #[{ on := 2, ground := Ground.data }], guard := none }, { dst := some 14, op := Op.call { callee := Callee.value (Operand.func 57), args := #[Operand.tmp 11, Operand.tmp 13], argTypes := #[89, 3] }, type := 97, pos := "graph.go:84", after := #[{ on := 1, ground := Ground.data }, { on := 3, ground := Ground.data }, { on := 1, ground := Ground.chain }], guard := none }, { dst := some 15, op := Op.field 97 (Operand.tmp 14) 0, type := 51, pos := "graph.go:84", after := #[{ on := 4, ground := Ground.data }], guard := none }, { dst := some 2, op := Op.assign (Operand.tmp 15), type := 51, pos := "graph.go:84", after := #[{ on := 5, ground := Ground.data }, { on := 4, ground := Ground.chain }, { on := 0, ground := Ground.phase }, { on := 1, ground := Ground.phase }, { on := 2, ground := Ground.phase }, { on := 3, ground := Ground.phase }, { on := 4, ground := Ground.phase }, { on := 5, ground := Ground.phase }], guard := none }, { dst := some 3, op := Op.assign (Operand.const (Value.int IntKind.i64 0)), type := 28, pos := "graph.go:84", after := #[{ on := 6, ground := Ground.chain }, { on := 0, ground := Ground.phase }, { on := 1, ground := Ground.phase }, { on := 2, ground := Ground.phase }, { on := 3, ground := Ground.phase }, { on := 4, ground := Ground.phase }, { on := 5, ground := Ground.phase }, { on := 6, ground := Ground.phase }], guard := none }] true).wp Try.prog Q (pdAct p a0 q4 q5 q6 q7 q8 q9 (nilS) (.int .i64 0) (undef) (undef) (undef) (undef) (undef) (undef)) W0 := by
  refine wp_region_inv (by kernel_rfl) (by kernel_rfl) (pdI P x ao c p E a0 q4 q5 q6 q7 q8 q9 W0) ?_ ?_ ?_
  · refine ⟨_, _, _, _, _, _, _, _, rfl, (Below.refl _ _).drew, ?_, ?_, ?_, ?_, ?_, ?_, ?_, ?_⟩ <;> (intro e; simp at e)
  · intro listed a w i o hI hs ho hl hd
    have hi9 : i < 8 := (Array.getElem?_eq_some_iff.1 ho).1
    obtain ⟨u2, u3, u10, u11, u12, u13, u14, u15, rfl, hB, h0, h1, h2, h3, h4, h5, h6, h7⟩ := hI
    have hlB := hB.size
    rcases (show i = 0 ∨ i = 1 ∨ i = 2 ∨ i = 3 ∨ i = 4 ∨ i = 5 ∨ i = 6 ∨ i = 7 by omega) with rfl | rfl | rfl | rfl | rfl | rfl | rfl | rfl
    · have ho' : some _ = some o := ho
      cases ho'
      have hbw : Below w.heap.size w w := Below.refl _ _
      obtain ⟨y0, y1, y2, y3⟩ := hg.below hB
      unfold pdAct; go_simp
      exact ⟨u2, u3, .agg #[.int .i64 (P : Int), .int .i64 (x : Int), .slice ao E.length c], u11, u12, u13, u14, u15, rfl, hB, fun _ => rfl, fun e1 => (h1 (lset_ne (by decide) e1)).below hbw, fun e2 => h2 (lset_ne (by decide) e2), fun e3 => h3 (lset_ne (by decide) e3), fun e4 => (h4 (lset_ne (by decide) e4)).below hbw, fun e5 => (h5 (lset_ne (by decide) e5)).below hbw, fun e6 => (h6 (lset_ne (by decide) e6)).below hbw, fun e7 => h7 (lset_ne (by decide) e7)⟩
    · have ho' : some _ = some o := ho
      cases ho'
      have d0 := hd { on := 0, ground := .data } (by simp) rfl
      have e0 := h0 d0
      subst e0
      unfold pdAct; go_simp
      refine (hbk w hB).mono ?_
      rintro e w' ⟨ve, vl, rfl, hv, hbw⟩
      exact ⟨u2, u3, .agg #[.int .i64 (P : Int), .int .i64 (x : Int), .slice ao E.length c], .agg #[ve, vl], u12, u13, u14, u15, rfl, Below.chain hB hbw, fun _ => rfl, fun _ => ⟨ve, vl, rfl, hv.keep (KA.refl _ _) (fun b h _ => Nat.le_trans hlB h)⟩, fun e2 => h2 (lset_ne (by decide) e2), fun e3 => h3 (lset_ne (by decide) e3), fun e4 => (h4 (lset_ne (by decide) e4)).below hbw, fun e5 => (h5 (lset_ne (by decide) e5)).below hbw, fun e6 => (h6 (lset_ne (by decide) e6)).below hbw, fun e7 => h7 (lset_ne (by decide) e7)⟩
    · have ho' : some _ = some o := ho
      cases ho'
      have hbw : Below w.heap.size w w := Below.refl _ _
      obtain ⟨y0, y1, y2, y3⟩ := hg.below hB
      unfold pdAct; go_simp
      exact ⟨u2, u3, u10, u11, .pointer (some ⟨p, 1, none⟩), u13, u14, u15, rfl, hB, fun e0 => h0 (lset_ne (by decide) e0), fun e1 => (h1 (lset_ne (by decide) e1)).below hbw, fun _ => rfl, fun e3 => h3 (lset_ne (by decide) e3), fun e4 => (h4 (lset_ne (by decide) e4)).below hbw, fun e5 => (h5 (lset_ne (by decide) e5)).below hbw, fun e6 => (h6 (lset_ne (by decide) e6)).below hbw, fun e7 => h7 (lset_ne (by decide) e7)⟩
    · have ho' : some _ = some o := ho
      cases ho'
      have d2 := hd { on := 2, ground := .data } (by simp) rfl
      have hbw : Below w.heap.size w w := Below.refl _ _
      obtain ⟨y0, y1, y2, y3⟩ := hg.below hB
      have e2 := h2 d2
      subst e2
      unfold pdAct; go_simp
      exact ⟨u2, u3, u10, u11, .pointer (some ⟨p, 1, none⟩), .int .i64 (x : Int), u14, u15, rfl, hB, fun e0 => h0 (lset_ne (by decide) e0), fun e1 => (h1 (lset_ne (by decide) e1)).below hbw, fun e2 => h2 (lset_ne (by decide) e2), fun _ => rfl, fun e4 => (h4 (lset_ne (by decide) e4)).below hbw, fun e5 => (h5 (lset_ne (by decide) e5)).below hbw, fun e6 => (h6 (lset_ne (by decide) e6)).below hbw, fun e7 => h7 (lset_ne (by decide) e7)⟩
    · have ho' : some _ = some o := ho
      cases ho'
      have d1 := hd { on := 1, ground := .data } (by simp) rfl
      have d3 := hd { on := 3, ground := .data } (by simp) rfl
      have d1 := hd { on := 1, ground := .chain } (by simp) rfl
      obtain ⟨ve, vl, e1, hv⟩ := h1 d1
      have e3 := h3 d3
      subst e1 e3
      have hvr := hv.keep (B := fun b => b < w.heap.size) (KA.refl _ _) (fun b _ h => h)
      obtain ⟨eo, ec, rfl⟩ := hv.ends.slice
      obtain ⟨tb, tc, rfl, -⟩ := hv.tab
      unfold pdAct; go_simp
      refine (dominance_any w (by omega) (fun q => Nat.le_trans (lsN_len P q _ E) (Nat.le_trans hlen (by omega))) (by unfold esN; rw [List.length_map]; exact Nat.le_trans hlen (by omega)) x hx hvr).mono ?_
      rintro e w' ⟨g, h, t, T, rfl, hdt, hng, -, hgl, -, -, hbw⟩
      exact ⟨u2, u3, u10, .agg #[.slice eo (esN (fun d => d.f) E).length ec, .slice (some ⟨tb, 0, none⟩) P tc], u12, .int .i64 (x : Int), .agg #[.slice (some ⟨g, 0, none⟩) P P, .slice (some ⟨h, 0, none⟩) P P], u15, rfl, Below.chain hB hbw, fun e0 => h0 (lset_ne (by decide) e0), fun _ => PdV.below ⟨_, _, rfl, hv⟩ hbw, fun e2 => h2 (lset_ne (by decide) e2), fun _ => rfl, fun _ => ⟨_, _, rfl, g, t, T, rfl, hdt, hng, Nat.le_trans hlB hgl⟩, fun e5 => (h5 (lset_ne (by decide) e5)).below hbw, fun e6 => (h6 (lset_ne (by decide) e6)).below hbw, fun e7 => h7 (lset_ne (by decide) e7)⟩
    · have ho' : some _ = some o := ho
      cases ho'
      have d4 := hd { on := 4, ground := .data } (by simp) rfl
      have hbw : Below w.heap.size w w := Below.refl _ _
      obtain ⟨v, k, e4, hr⟩ := h4 d4
      subst e4
      have hf := run_field_dom0
      unfold pdAct; go_simp
      exact ⟨u2, u3, u10, u11, u12, u13, .agg #[v, k], v, rfl, hB, fun e0 => h0 (lset_ne (by decide) e0), fun e1 => (h1 (lset_ne (by decide) e1)).below hbw, fun e2 => h2 (lset_ne (by decide) e2), fun e3 => h3 (lset_ne (by decide) e3), fun _ => ⟨_, _, rfl, hr⟩, fun _ => hr, fun e6 => (h6 (lset_ne (by decide) e6)).below hbw, fun e7 => h7 (lset_ne (by decide) e7)⟩
    · have ho' : some _ = some o := ho
      cases ho'
      have d5 := hd { on := 5, ground := .data } (by simp) rfl
      have d4 := hd { on := 4, ground := .chain } (by simp) rfl
      have d0 := hd { on := 0, ground := .phase } (by simp) rfl
      have d1 := hd { on := 1, ground := .phase } (by simp) rfl
      have d2 := hd { on := 2, ground := .phase } (by simp) rfl
      have d3 := hd { on := 3, ground := .phase } (by simp) rfl
      have d4 := hd { on := 4, ground := .phase } (by simp) rfl
      have d5 := hd { on := 5, ground := .phase } (by simp) rfl
      have hbw : Below w.heap.size w w := Below.refl _ _
      have hr := h5 d5
      have e0 := h0 d0
      have e2 := h2 d2
      have e3 := h3 d3
      subst e0 e2 e3
      unfold pdAct; go_simp
      exact ⟨u15, u3, .agg #[.int .i64 (P : Int), .int .i64 (x : Int), .slice ao E.length c], u11, .pointer (some ⟨p, 1, none⟩), .int .i64 (x : Int), u14, u15, rfl, hB, fun _ => rfl, fun e1 => (h1 (lset_ne (by decide) e1)).below hbw, fun _ => rfl, fun _ => rfl, fun e4 => (h4 (lset_ne (by decide) e4)).below hbw, fun e5 => (h5 (lset_ne (by decide) e5)).below hbw, fun _ => hr, fun e7 => h7 (lset_ne (by decide) e7)⟩
    · have ho' : some _ = some o := ho
      cases ho'
      have d6 := hd { on := 6, ground := .chain } (by simp) rfl
      have d0 := hd { on := 0, ground := .phase } (by simp) rfl
      have d1 := hd { on := 1, ground := .phase } (by simp) rfl
      have d2 := hd { on := 2, ground := .phase } (by simp) rfl
      have d3 := hd { on := 3, ground := .phase } (by simp) rfl
      have d4 := hd { on := 4, ground := .phase } (by simp) rfl
      have d5 := hd { on := 5, ground := .phase } (by simp) rfl
      have d6 := hd { on := 6, ground := .phase } (by simp) rfl
      have hbw : Below w.heap.size w w := Below.refl _ _
      have e0 := h0 d0
      have e2 := h2 d2
      have e3 := h3 d3
      subst e0 e2 e3
      unfold pdAct; go_simp
      exact ⟨u2, .int .i64 0, .agg #[.int .i64 (P : Int), .int .i64 (x : Int), .slice ao E.length c], u11, .pointer (some ⟨p, 1, none⟩), .int .i64 (x : Int), u14, u15, rfl, hB, fun _ => rfl, fun e1 => (h1 (lset_ne (by decide) e1)).below hbw, fun _ => rfl, fun _ => rfl, fun e4 => (h4 (lset_ne (by decide) e4)).below hbw, fun e5 => (h5 (lset_ne (by decide) e5)).below hbw, fun e6 => (h6 (lset_ne (by decide) e6)).below hbw, fun _ => rfl⟩
  · rintro listed a w ⟨u2, u3, u10, u11, u12, u13, u14, u15, rfl, hB, h0, h1, h2, h3, h4, h5, h6, h7⟩ hall
    exact hQ _ _ _ _ _ _ _ _ w hB (h0 (hall 0 (by decide))) (h1 (hall 1 (by decide))) (h2 (hall 2 (by decide))) (h3 (hall 3 (by decide))) (h4 (hall 4 (by decide))) (h5 (hall 5 (by decide))) (h6 (hall 6 (by decide))) (h7 (hall 7 (by decide)))
set_option maxRecDepth 20000 in
set_option maxHeartbeats 4000000 in
theorem Dominators_any {A : Nat → Prop} (n x : Int) (ao : Option Addr) (c : Nat) (E : List Ed) (w : World) (hr : ERow A w ao c E) :
    Calls Try.prog 28 #[.agg #[.int .i64 n, .int .i64 x, .slice ao E.length c]] w (DomsQ (fun _ => nxF) (fun x => 0) n x E w) := by
  have hA : Below w.heap.size w (w.alloc (Obj.cells #[.int .i64 n, .int .i64 x, .slice ao E.length c] 24)) := (Below.refl _ _).alloc (Nat.le_refl _) _
  have hX := GBx.new w n x ao E.length c
  have CC := fun W hW => check_any n x ao c E W (hr.keep (B := A) (But.of_below (S := fun _ => False) (w' := W) hW) (fun _ h _ => ⟨id, h⟩))
  have KA' := Lib.hid hA; have HX := Lib.hid hX; have KC := Lib.hid CC; have HR := Lib.hid hr
  clear hA hX CC hr
  by_cases h0 : ckG n x E = 0
  rotate_left
  · obtain ⟨K, hK⟩ : ∃ K, ckG n x E = K := ⟨_, rfl⟩
    have HK := Lib.hid hK
    rw [hK] at h0
    have t1 : ((K : Int) != 0) = true := by rw [bne_iff_ne]; omega
    have H0 := Lib.hid h0
    clear h0 hK
    have k1 := KC.out _ KA'.out
    rw [HK.out] at k1
    have K1 := Lib.hid k1; clear k1 KC
    go_enter Try.func28, Try.ntmps28
    go_wp2_with (go_at_call 21; refine (K1.out).mono ?_; rintro e w1 ⟨rfl, hb⟩; refine Hid.out ?_)
    have HB := Lib.hid (Below.chain KA'.out hb); clear hb
    refine Lib.hid ?_
    go_wp2
    refine bodyPost_ret (by first | (simp [results, Try.results28, go_sem]; done) | (simp [results, Try.results28, go_sem]; rfl)) rfl ?_
    exact ⟨HB.out, .inl ⟨by rw [HK.out]; exact H0.out, by rw [HK.out]⟩⟩
  · have k1 := KC.out _ KA'.out
    rw [h0] at k1
    have K1 := Lib.hid k1; clear k1
    have hn : 1 ≤ n ∧ n ≤ 512 ∧ isPt n x = true := by
      unfold ckG at h0
      split at h0
      · cases h0
      · split at h0
        · cases h0
        · next h1 h2 => exact ⟨by omega, by omega, by simpa using h2⟩
    obtain ⟨P, rfl⟩ := Int.eq_ofNat_of_zero_le (show 0 ≤ n by omega)
    have hx := isPt_true hn.2.2
    obtain ⟨rx, rfl⟩ := Int.eq_ofNat_of_zero_le (show 0 ≤ x by omega)
    obtain ⟨hP0, hP1, hlen, -⟩ := ckG_ok h0
    have k2 := fun W hW => forward_vr P (rx : Int) ao c E W (HR.out.keep (B := A) (But.of_below (S := fun _ => False) (w' := W) hW) (fun _ h _ => ⟨id, h⟩)) h0
    have K2 := Lib.hid k2; have H0 := Lib.hid h0; have HL := Lib.hid hlen; have HPX := Lib.hid hx
    clear k2 KC h0 hn hlen hx
    go_enter Try.func28, Try.ntmps28
    go_wp2_with (go_at_call 21; refine (K1.out).mono ?_; rintro e w1 ⟨rfl, hb⟩; refine Hid.out ?_)
    have HB := Lib.hid (Below.chain KA'.out hb)
    obtain ⟨y0, y1, y2, y3⟩ := HX.out.below hb
    clear hb
    refine Lib.hid ?_
    go_wp2_with (go_at_call 47; refine (K2.out _ HB.out).mono ?_; rintro e w2 ⟨ve, vl, rfl, hv, hb⟩; refine Hid.out ?_)
    obtain ⟨z0, z1, z2, z3⟩ := (⟨y0, y1, y2, y3⟩ : GBx w1 w.heap.size _ _ _ _ _).below hb
    have k4 := dominance_any w2 (by omega) (fun p => Nat.le_trans (lsN_len P p _ E) (Nat.le_trans HL.out (by omega))) (by unfold esN; rw [List.length_map]; exact Nat.le_trans HL.out (by omega)) 0 (by have := HPX.out; omega) (hv.keep (KA.refl _ _) (fun b _ h2 => h2))
    have K4 := Lib.hid k4; have HB2 := Lib.hid (Below.chain HB.out hb)
    obtain ⟨eo, ec, rfl⟩ := hv.ends.slice
    obtain ⟨tb, tc, rfl, -⟩ := hv.tab
    clear k4 hv hb y0 y1 y2 y3
    refine Lib.hid ?_
    go_wp2_with (go_at_call 57; refine (K4.out).mono ?_; rintro e w3 ⟨g, h, t, T, rfl, hd, hg, -, hgl, -, -, hb⟩; refine Hid.out ?_)
    have HB3 := Lib.hid (Below.chain HB2.out hb); have HD := Lib.hid hd; have HG := Lib.hid hg
    have hgl2 : w.heap.size ≤ g := Nat.le_trans HB2.out.size hgl
    have HGL := Lib.hid hgl2
    clear hb hd hg hgl hgl2 K4 z0 z1 z2 z3
    refine Lib.hid ?_
    have hf := run_field_dom0
    go_wp2
    refine bodyPost_ret (by first | (simp [results, Try.results28, go_sem]; done) | (simp [results, Try.results28, go_sem]; rfl)) rfl ?_
    exact ⟨HB3.out, .inr ⟨H0.out, g, t, T, rfl, HD.out, HG.out, HGL.out⟩⟩
set_option maxRecDepth 20000 in
set_option maxHeartbeats 4000000 in
theorem Postdominators_any {A : Nat → Prop} (n x : Int) (ao : Option Addr) (c : Nat) (E : List Ed) (w : World) (hr : ERow A w ao c E) :
    Calls Try.prog 30 #[.agg #[.int .i64 n, .int .i64 x, .slice ao E.length c]] w (DomsQ (fun _ => nxB) (fun x => x.toNat) n x E w) := by
  have hA : Below w.heap.size w (w.alloc (Obj.cells #[.int .i64 n, .int .i64 x, .slice ao E.length c] 24)) := (Below.refl _ _).alloc (Nat.le_refl _) _
  have hX := GBx.new w n x ao E.length c
  have CC := fun W hW => check_any n x ao c E W (hr.keep (B := A) (But.of_below (S := fun _ => False) (w' := W) hW) (fun _ h _ => ⟨id, h⟩))
  have KA' := Lib.hid hA; have HX := Lib.hid hX; have KC := Lib.hid CC; have HR := Lib.hid hr
  clear hA hX CC hr
  by_cases h0 : ckG n x E = 0
  rotate_left
  · obtain ⟨K, hK⟩ : ∃ K, ckG n x E = K := ⟨_, rfl⟩
    have HK := Lib.hid hK
    rw [hK] at h0
    have t1 : ((K : Int) != 0) = true := by rw [bne_iff_ne]; omega
    have H0 := Lib.hid h0
    clear h0 hK
    have k1 := KC.out _ KA'.out
    rw [HK.out] at k1
    have K1 := Lib.hid k1; clear k1 KC
    go_enter Try.func30, Try.ntmps30
    go_wp2_with (go_at_call 21; refine (K1.out).mono ?_; rintro e w1 ⟨rfl, hb⟩; refine Hid.out ?_)
    have HB := Lib.hid (Below.chain KA'.out hb); clear hb
    refine Lib.hid ?_
    go_wp2
    refine bodyPost_ret (by first | (simp [results, Try.results30, go_sem]; done) | (simp [results, Try.results30, go_sem]; rfl)) rfl ?_
    exact ⟨HB.out, .inl ⟨by rw [HK.out]; exact H0.out, by rw [HK.out]⟩⟩
  · have k1 := KC.out _ KA'.out
    rw [h0] at k1
    have K1 := Lib.hid k1; clear k1
    have hn : 1 ≤ n ∧ n ≤ 512 ∧ isPt n x = true := by
      unfold ckG at h0
      split at h0
      · cases h0
      · split at h0
        · cases h0
        · next h1 h2 => exact ⟨by omega, by omega, by simpa using h2⟩
    obtain ⟨P, rfl⟩ := Int.eq_ofNat_of_zero_le (show 0 ≤ n by omega)
    have hx := isPt_true hn.2.2
    obtain ⟨rx, rfl⟩ := Int.eq_ofNat_of_zero_le (show 0 ≤ x by omega)
    obtain ⟨hP0, hP1, hlen, -⟩ := ckG_ok h0
    have k2 := fun W hW => backward_vr P (rx : Int) ao c E W (HR.out.keep (B := A) (But.of_below (S := fun _ => False) (w' := W) hW) (fun _ h _ => ⟨id, h⟩)) h0
    have K2 := Lib.hid k2; have H0 := Lib.hid h0; have HL := Lib.hid hlen; have HPX := Lib.hid hx
    clear k2 KC h0 hn hlen hx
    go_enter Try.func30, Try.ntmps30
    go_wp2_with (go_at_call 21; refine (K1.out).mono ?_; rintro e w1 ⟨rfl, hb⟩; refine Hid.out ?_)
    have HB := Lib.hid (Below.chain KA'.out hb)
    obtain ⟨y0, y1, y2, y3⟩ := HX.out.below hb
    clear hb
    refine Lib.hid ?_
    go_wp2_with fail
    have HZ := Lib.hid HB.out.size
    refine pd_region P rx ao c w.heap.size E _ _ _ _ _ _ _ w1 (by omega) (by have := HPX.out; omega) HL.out ⟨y0, y1, y2, y3⟩ (fun W hW => K2.out _ (Below.chain HB.out hW)) ?_
    intro u2 u3 u10 u11 u12 u13 u14 u15 w2 hb h0 h1 h2 h3 h4 h5 h6 h7
    obtain ⟨g, t, T, e6, hd, hg, hgl⟩ := h6
    have HB3 := Lib.hid (Below.chain HB.out hb)
    clear h0 h1 h2 h3 h4 h5 hb
    subst e6 h7
    unfold pdAct
    go_wp2
    refine bodyPost_ret (by first | (simp [results, Try.results30, go_sem]; done) | (simp [results, Try.results30, go_sem]; rfl)) rfl ?_
    exact ⟨HB3.out, .inr ⟨H0.out, g, t, T, rfl, hd, hg, Nat.le_trans HZ.out hgl⟩⟩
end Go.Proofs.Ytjjkabgbcflipaa
namespace Go.Proofs.Ytjjkabgbcflipaa
open Go Go.Proofs Go.RowKit GM

/-- A table of rows that can be read. -/
def TB (lo : Nat) (W : World) (vl : Value) (P : Nat) (ls : List (List Nat)) : Prop := ∃ b c, vl = .slice (some ⟨b, 0, none⟩) P c ∧ lo ≤ b ∧ b < W.heap.size ∧ ∀ p, p < P → ∃ rv, W.cell? ⟨b, p, none⟩ = some rv ∧ IR (fun b => lo ≤ b) W rv (rowD ls p)
theorem run_field_view1 (a b : Value) (W : World) : (Instr.field 89 (.agg #[a, b]) 1).run Try.prog W = .ok b W := by
  unfold Instr.field
  simp [go_sem, run_underlying Try.underlying89, part, isAgg, asAgg, run_underlying Try.underlying27]
theorem ckG_pos {n x : Int} {E : List Ed} (h0 : ckG n x E = 0) : 1 ≤ n ∧ n ≤ 512 ∧ isPt n x = true := by
  unfold ckG at h0
  split at h0
  · cases h0
  · split at h0
    · cases h0
    · next h1 h2 => exact ⟨by omega, by omega, by simpa using h2⟩
def OutQ (ls : Nat → List Ed → List (List Nat)) (n x : Int) (E : List Ed) (w : World) : Ending → World → Prop := fun e w' => Below w.heap.size w w' ∧
  ((ckG n x E ≠ 0 ∧ e = .returned (.tuple #[nilS, .int .i64 (ckG n x E : Nat)])) ∨
   (ckG n x E = 0 ∧ ∃ vl, e = .returned (.tuple #[vl, .int .i64 0]) ∧ TB w.heap.size w' vl n.toNat (ls n.toNat E)))
set_option maxRecDepth 20000 in
set_option maxHeartbeats 4000000 in
theorem Out_any {A : Nat → Prop} (n x : Int) (ao : Option Addr) (c : Nat) (E : List Ed) (w : World) (hr : ERow A w ao c E) :
    Calls Try.prog 15 #[.agg #[.int .i64 n, .int .i64 x, .slice ao E.length c]] w (OutQ (fun P E => lsN P (fun d => d.f) E) n x E w) := by
  have hA : Below w.heap.size w (w.alloc (Obj.cells #[.int .i64 n, .int .i64 x, .slice ao E.length c] 24)) := (Below.refl _ _).alloc (Nat.le_refl _) _
  have hX := GBx.new w n x ao E.length c
  have CC := fun W hW => check_any n x ao c E W (hr.keep (B := A) (But.of_below (S := fun _ => False) (w' := W) hW) (fun _ h _ => ⟨id, h⟩))
  have KA' := Lib.hid hA; have HX := Lib.hid hX; have KC := Lib.hid CC; have HR := Lib.hid hr
  clear hA hX CC hr
  by_cases h0 : ckG n x E = 0
  rotate_left
  · obtain ⟨K, hK⟩ : ∃ K, ckG n x E = K := ⟨_, rfl⟩
    have HK := Lib.hid hK
    rw [hK] at h0
    have t1 : ((K : Int) != 0) = true := by rw [bne_iff_ne]; omega
    have H0 := Lib.hid h0
    clear h0 hK
    have k1 := KC.out _ KA'.out
    rw [HK.out] at k1
    have K1 := Lib.hid k1; clear k1 KC
    go_enter Try.func15, Try.ntmps15
    go_wp2_with (go_at_call 21; refine (K1.out).mono ?_; rintro e w1 ⟨rfl, hb⟩; refine Hid.out ?_)
    have HB := Lib.hid (Below.chain KA'.out hb); clear hb
    refine Lib.hid ?_
    go_wp2
    refine bodyPost_ret (by first | (simp [results, Try.results15, go_sem]; done) | (simp [results, Try.results15, go_sem]; rfl)) rfl ?_
    exact ⟨HB.out, .inl ⟨by rw [HK.out]; exact H0.out, by rw [HK.out]⟩⟩
  · have k1 := KC.out _ KA'.out
    rw [h0] at k1
    have K1 := Lib.hid k1; clear k1
    obtain ⟨hn1, hn2, -⟩ := ckG_pos h0
    obtain ⟨P, rfl⟩ := Int.eq_ofNat_of_zero_le (show 0 ≤ n by omega)
    have k2 := fun W hW => forward_vr P x ao c E W (HR.out.keep (B := A) (But.of_below (S := fun _ => False) (w' := W) hW) (fun _ h _ => ⟨id, h⟩)) h0
    have K2 := Lib.hid k2; have H0 := Lib.hid h0
    clear k2 KC h0 hn1 hn2
    go_enter Try.func15, Try.ntmps15
    go_wp2_with (go_at_call 21; refine (K1.out).mono ?_; rintro e w1 ⟨rfl, hb⟩; refine Hid.out ?_)
    have HB := Lib.hid (Below.chain KA'.out hb)
    obtain ⟨y0, y1, y2, y3⟩ := HX.out.below hb
    clear hb
    refine Lib.hid ?_
    go_wp2_with (go_at_call 47; refine (K2.out _ HB.out).mono ?_; rintro e w2 ⟨ve, vl, rfl, hv, hb⟩; refine Hid.out ?_)
    have HB2 := Lib.hid (Below.chain HB.out hb)
    have HV := Lib.hid hv; have HZ := Lib.hid HB.out.size
    clear hv hb y0 y1 y2 y3
    refine Lib.hid ?_
    have hf := run_field_view1
    go_wp2
    refine bodyPost_ret (by first | (simp [results, Try.results15, go_sem]; done) | (simp [results, Try.results15, go_sem]; rfl)) rfl ?_
    refine ⟨HB2.out, .inr ⟨H0.out, vl, rfl, ?_⟩⟩
    obtain ⟨b, c, e, h1, h2, h3⟩ := HV.out.tab
    refine ⟨b, c, e, Nat.le_trans HZ.out h1, h2, fun p hp => ?_⟩
    obtain ⟨rv, e1, e2⟩ := h3 p hp
    exact ⟨rv, e1, e2.keep (KA.refl _ _) (fun _ h _ => Nat.le_trans HZ.out h)⟩
set_option maxRecDepth 20000 in
set_option maxHeartbeats 4000000 in
theorem In_any {A : Nat → Prop} (n x : Int) (ao : Option Addr) (c : Nat) (E : List Ed) (w : World) (hr : ERow A w ao c E) :
    Calls Try.prog 17 #[.agg #[.int .i64 n, .int .i64 x, .slice ao E.length c]] w (OutQ (fun P E => lsN P (fun d => d.t) E) n x E w) := by
  have hA : Below w.heap.size w (w.alloc (Obj.cells #[.int .i64 n, .int .i64 x, .slice ao E.length c] 24)) := (Below.refl _ _).alloc (Nat.le_refl _) _
  have hX := GBx.new w n x ao E.length c
  have CC := fun W hW => check_any n x ao c E W (hr.keep (B := A) (But.of_below (S := fun _ => False) (w' := W) hW) (fun _ h _ => ⟨id, h⟩))
  have KA' := Lib.hid hA; have HX := Lib.hid hX; have KC := Lib.hid CC; have HR := Lib.hid hr
  clear hA hX CC hr
  by_cases h0 : ckG n x E = 0
  rotate_left
  · obtain ⟨K, hK⟩ : ∃ K, ckG n x E = K := ⟨_, rfl⟩
    have HK := Lib.hid hK
    rw [hK] at h0
    have t1 : ((K : Int) != 0) = true := by rw [bne_iff_ne]; omega
    have H0 := Lib.hid h0
    clear h0 hK
    have k1 := KC.out _ KA'.out
    rw [HK.out] at k1
    have K1 := Lib.hid k1; clear k1 KC
    go_enter Try.func17, Try.ntmps17
    go_wp2_with (go_at_call 21; refine (K1.out).mono ?_; rintro e w1 ⟨rfl, hb⟩; refine Hid.out ?_)
    have HB := Lib.hid (Below.chain KA'.out hb); clear hb
    refine Lib.hid ?_
    go_wp2
    refine bodyPost_ret (by first | (simp [results, Try.results17, go_sem]; done) | (simp [results, Try.results17, go_sem]; rfl)) rfl ?_
    exact ⟨HB.out, .inl ⟨by rw [HK.out]; exact H0.out, by rw [HK.out]⟩⟩
  · have k1 := KC.out _ KA'.out
    rw [h0] at k1
    have K1 := Lib.hid k1; clear k1
    obtain ⟨hn1, hn2, -⟩ := ckG_pos h0
    obtain ⟨P, rfl⟩ := Int.eq_ofNat_of_zero_le (show 0 ≤ n by omega)
    have k2 := fun W hW => backward_vr P x ao c E W (HR.out.keep (B := A) (But.of_below (S := fun _ => False) (w' := W) hW) (fun _ h _ => ⟨id, h⟩)) h0
    have K2 := Lib.hid k2; have H0 := Lib.hid h0
    clear k2 KC h0 hn1 hn2
    go_enter Try.func17, Try.ntmps17
    go_wp2_with (go_at_call 21; refine (K1.out).mono ?_; rintro e w1 ⟨rfl, hb⟩; refine Hid.out ?_)
    have HB := Lib.hid (Below.chain KA'.out hb)
    obtain ⟨y0, y1, y2, y3⟩ := HX.out.below hb
    clear hb
    refine Lib.hid ?_
    go_wp2_with (go_at_call 49; refine (K2.out _ HB.out).mono ?_; rintro e w2 ⟨ve, vl, rfl, hv, hb⟩; refine Hid.out ?_)
    have HB2 := Lib.hid (Below.chain HB.out hb)
    have HV := Lib.hid hv; have HZ := Lib.hid HB.out.size
    clear hv hb y0 y1 y2 y3
    refine Lib.hid ?_
    have hf := run_field_view1
    go_wp2
    refine bodyPost_ret (by first | (simp [results, Try.results17, go_sem]; done) | (simp [results, Try.results17, go_sem]; rfl)) rfl ?_
    refine ⟨HB2.out, .inr ⟨H0.out, vl, rfl, ?_⟩⟩
    obtain ⟨b, c, e, h1, h2, h3⟩ := HV.out.tab
    refine ⟨b, c, e, Nat.le_trans HZ.out h1, h2, fun p hp => ?_⟩
    obtain ⟨rv, e1, e2⟩ := h3 p hp
    exact ⟨rv, e1, e2.keep (KA.refl _ _) (fun _ h _ => Nat.le_trans HZ.out h)⟩
end Go.Proofs.Ytjjkabgbcflipaa
