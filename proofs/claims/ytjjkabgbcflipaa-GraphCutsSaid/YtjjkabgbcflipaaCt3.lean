import Derived.Test.YtjjkabgbcflipaaCt2
import Derived.Test.YtjjkabgbcflipaaCt1
import Derived.Test.YtjjkabgbcflipaaCu10
set_option linter.unusedSimpArgs false
set_option linter.unusedVariables false
namespace Go.Proofs.Ytjjkabgbcflipaa
open Go Go.Proofs Go.RowKit GM

attribute [local go_sem] Oper.semAt_some

theorem infoRowB : (Try.prog.info? 33).map (fun i => (i.zero, i.size, i.bytes)) = some (some nilS, 1, 24) := by kernel_rfl
theorem make_brows (W : World) (n : Nat) (h : n ≤ 100000) : (Instr.makeSlice 116 (.int .i64 (n : Int)) (.int .i64 (n : Int))).run Try.prog W = .ok (.slice (some ⟨W.heap.size, 0, none⟩) n n) (W.alloc (.cells (Array.replicate n nilS) 33)) := by
  obtain ⟨i0, hi, hz0, hz1, hz2⟩ := info_parts infoRowB
  have := run_make (P := Try.prog) W 116 33 i0 nilS Try.underlying116 hi hz0 .i64 .i64 n n (by omega) (by omega) (by rw [hz2]; omega) (by omega)
  rw [hz1, Nat.mul_one, Int.toNat_natCast, show nilS.cells = #[nilS] from rfl, made_one] at this
  exact this
/-- What Dominates answers. -/
def DmsQ (P : Nat) (E : List Ed) (r : Nat) (w : World) : Ending → World → Prop := fun e w' => ∃ LB f, e = .returned (.slice (some ⟨LB, 0, none⟩) P P) ∧ DmAt w' LB P f ∧ w.heap.size ≤ LB ∧
  (∀ q d, q < P → d < P → (f q d = true ↔ Dm (nxF P E) r q d)) ∧ LB + 1 + P ≤ w'.heap.size ∧ Below w.heap.size w w'

set_option maxRecDepth 100000 in
set_option maxHeartbeats 1000000 in
theorem dominates_any {A : Nat → Prop} (P : Nat) (x : Int) (ao : Option Addr) (c : Nat) (E : List Ed) (w : World) (hr : ERow A w ao c E) (h0 : ckG P x E = 0) (r : Nat) (hrP : r < P) :
    Calls Try.prog 76 #[.agg #[.int .i64 (P : Int), .int .i64 x, .slice ao E.length c], .int .i64 (r : Int)] w (DmsQ P E r w) := by
  obtain ⟨hn1, hn2, hlen, hpts⟩ := ckG_ok h0
  have k1 := fun W (hW : Below w.heap.size w W) (wo : Int) => reached_any P x ao c E W (hr.keep (B := A) (But.of_below (S := fun _ => False) (w' := W) hW) (fun _ h _ => ⟨id, h⟩)) h0 r hrP wo
  have hA : Below w.heap.size w (w.alloc (Obj.cells #[.int .i64 (P : Int), .int .i64 x, .slice ao E.length c] 24)) := (Below.refl _ _).alloc (Nat.le_refl _) _
  have hX := GBx.new w P x ao E.length c
  have HR := Lib.hid k1; have HA := Lib.hid hA; have HX := Lib.hid hX
  obtain ⟨y0, y1, y2, y3⟩ := hX
  have m0 : (0 : Int) ≤ (P : Int) := by omega
  clear hr h0 hpts k1 hlen hA
  go_enter Try.func76, Try.ntmps76
  go_wp2_with (first | (go_at_call 53; refine (HR.out _ HA.out _).mono ?_; rintro e w1 ⟨mk, rfl, hm, hmk, hb⟩; refine Hid.out ?_) | fail)
  have HB1 := Lib.hid (Below.chain HA.out hb)
  have hX1 := HX.out.below hb
  have hsz : (w.alloc (Obj.cells #[.int .i64 (P : Int), .int .i64 x, .slice ao E.length c] 24)).heap.size = w.heap.size + 1 := by simp
  rw [hsz] at hm
  have HS1 : Hid (w.heap.size + 1 + 1 < w1.heap.size) := Lib.hid (by have := hm.lt; omega)
  clear y0 y1 y2 y3 hb HA
  try rw [hsz]
  have hmk1 := make_brows w1 P (by omega)
  have HX1 := Lib.hid hX1; have HM1 := Lib.hid hm; have HMK := Lib.hid hmk; have HMAKE := Lib.hid hmk1
  have hc0 := fun k hk => made_cell w1 P nilS 33 k hk
  have hf0 := made_free w1 P nilS 33
  have hbN : Below w1.heap.size w1 (w1.alloc (.cells (Array.replicate P nilS) 33)) := (Below.refl _ _).alloc (Nat.le_refl _) _
  have hzN : (w1.alloc (.cells (Array.replicate P nilS) 33)).heap.size = w1.heap.size + 1 := by simp
  have HB2 := Lib.hid (Below.chain HB1.out hbN)
  have HX2 := Lib.hid (hX1.below hbN)
  have HM2 := Lib.hid (hm.below hbN)
  have HC0 := Lib.hid hc0; have HF0 := Lib.hid hf0; have HZN := Lib.hid hzN
  obtain ⟨y0, y1, y2, y3⟩ := hX1
  clear hm hmk hc0 hf0 hbN hzN HX HX1 HM1 HMAKE
  refine Lib.hid ?_
  go_wp2_with fail
  clear y0 y1 y2 y3 hmk1
  generalize (w1.alloc (.cells (Array.replicate P nilS) 33)) = W0 at *
  obtain ⟨LB, hLB⟩ : ∃ LB, w1.heap.size = LB := ⟨_, rfl⟩
  rw [hLB] at HC0 HF0 HZN HS1 ⊢
  clear hLB
  go_loopw [7] (fun iv wr => ∃ (k : Nat), k ≤ P ∧ iv = .int .i64 (k : Int) ∧ wr.heap.size = LB + 1 + k ∧ (∀ j, j < k → wr.cell? ⟨LB, j, none⟩ = some (.slice (some ⟨LB + 1 + j, 0, none⟩) P P) ∧ MkAt wr (LB + 1 + j) P (fun _ => false)) ∧ (∀ j, k ≤ j → j < P → wr.cell? ⟨LB, j, none⟩ = some nilS) ∧ (∀ j, wr.frozen? ⟨LB, j, none⟩ = false) ∧ But (fun b => b = LB) W0 wr) (fun iv _ => P - (intOf iv).toNat)
  case atStart => exact ⟨0, Nat.zero_le _, rfl, HZN.out, fun j hj => absurd hj (by omega), fun j _ hj => HC0.out j hj, HF0.out, But.refl _ _⟩
  case round =>
    obtain ⟨k, hk, rfl, hs, h1, h2, hf, hB⟩ := hrel
    obtain ⟨y0, y1, y2, y3⟩ := HX2.out.but hB (by have := HS1.out; omega)
    by_cases hlt : k < P
    · have j1 : (k : Int) < (P : Int) := by omega
      have j0 : (0 : Int) ≤ (k : Int) := by omega
      have hmk := make_bools wr P (by omega)
      have hmd := MkAt.made wr P
      have hbA : Below wr.heap.size wr (wr.alloc (.cells (Array.replicate P (.bool false)) 4)) := (Below.refl _ _).alloc (Nat.le_refl _) _
      have hbT := hB.next hbA
      have z0 := (hbA.cell (p := ⟨LB, k, none⟩) (by dsimp only; omega)).trans (h2 k (Nat.le_refl _) hlt)
      have z1 := (hbA.frozen (p := ⟨LB, k, none⟩) (by dsimp only; omega)).trans (hf k)
      have HH := Lib.hid (And.intro h1 (And.intro h2 (And.intro hf hB))); have HS := Lib.hid hs; have HBA := Lib.hid hbA; have HMD := Lib.hid hmd; have HLT := Lib.hid hlt
      have HSA : Hid ((wr.alloc (.cells (Array.replicate P (.bool false)) 4)).heap.size = wr.heap.size + 1) := Lib.hid (by simp)
      have HZ0 := Lib.hid z0
      clear h1 h2 hf hB hbA hbT hmd hlt
      go_wp2_with fail
      go_roundw
      case rel =>
        obtain ⟨h1, h2, hf, hB⟩ := HH.out
        have hs := HS.out
        have hlt := HLT.out
        have hb1 : But (fun b => b = LB) wr ((wr.alloc (.cells (Array.replicate P (.bool false)) 4)).setCell ⟨LB, k, none⟩ (.slice (some ⟨LB + 1 + k, 0, none⟩) P P)) := (But.of_below HBA.out).set _ _ (fun _ => rfl)
        refine ⟨k + 1, hlt, by go_num, by rw [World.size_setCell, HSA.out, hs]; omega, fun j hj => ?_, fun j hj1 hj2 => ?_, fun j => ?_, hB.trans hb1 (fun _ _ e => e)⟩
        · by_cases e : j = k
          · subst e
            refine ⟨?_, ?_⟩
            · exact cellSet HZ0.out _
            · have hmd := HMD.out
              rw [hs] at hmd
              exact hmd.but ((But.refl (fun b => b = LB) _).set ⟨LB, j, none⟩ _ (fun _ => rfl)) (by omega)
          · refine ⟨?_, ((h1 j (by omega)).2).but hb1 (by omega)⟩
            rw [World.cell?_setCell_other (h := by intro q; cases q; exact e rfl)]
            exact (HBA.out.cell (p := ⟨LB, j, none⟩) (by dsimp only; omega)).trans (h1 j (by omega)).1
        · rw [World.cell?_setCell_other (h := by intro q; cases q; omega)]
          exact (HBA.out.cell (p := ⟨LB, j, none⟩) (by dsimp only; omega)).trans (h2 j (by omega) hj2)
        · rw [World.frozen?_setCell]
          exact (HBA.out.frozen (p := ⟨LB, j, none⟩) (by dsimp only; omega)).trans (hf j)
      case measure => have := HLT.out; simp [intOf]; omega
    · have hkm : k = P := by omega
      subst hkm
      have hD : DmAt wr LB k (fun _ _ => false) := ⟨fun j hj => (h1 j hj).1, fun j hj => (h1 j hj).2, by omega⟩
      have HD := Lib.hid hD; have HB := Lib.hid hB; have HS := Lib.hid hs
      clear hD hB hs h1 h2 hf hlt
      go_wp2_with fail
      clear y0 y1 y2 y3
      generalize k = P at *
      go_loopw [8] (fun iv wr2 => ∃ (d : Nat) (f : Nat → Nat → Bool), d ≤ P ∧ iv = .int .i64 (d : Int) ∧ DmAt wr2 LB P f ∧ (∀ q e, q < P → e < P → (f q e = true ↔ e < d ∧ Dm (nxF P E) r q e)) ∧ LB + 1 + P ≤ wr2.heap.size ∧ But (fun b => b = LB) W0 wr2) (fun iv _ => P - (intOf iv).toNat)
      case atStart => exact ⟨0, _, Nat.zero_le _, rfl, HD.out, fun q e _ _ => ⟨fun h => (by cases h), fun h => absurd h.1 (by omega)⟩, by have := HS.out; omega, HB.out⟩
      case round =>
        obtain ⟨wr2, rfl⟩ : ∃ W2 : World, W2 = wr := ⟨_, rfl⟩
        obtain ⟨d, f, hd, rfl, hD, hF, hs2, hB2⟩ := hrel
        obtain ⟨y0, y1, y2, y3⟩ := HX2.out.but hB2 (by have := HS1.out; omega)
        have hbl : Below w.heap.size w wr2 := HB2.out.trans ⟨hB2.os, hB2.tape, hB2.output, hB2.size, fun j hj => hB2.block j (by have := HB2.out.size; omega) (by have := HS1.out; omega)⟩
        have HDD := Lib.hid (And.intro hD (And.intro hF (And.intro hs2 hB2))); have HBL := Lib.hid hbl
        clear hD hF hs2 hB2 hbl
        by_cases hlt : d < P
        · have j1 : (d : Int) < (P : Int) := by omega
          have hlt2 := Lib.hid hlt
          clear hlt
          go_wp2_with (first | (go_at_call 53; refine (HR.out _ HBL.out _).mono ?_; rintro e w3 ⟨mk2, rfl, hm2, hmk2, hb3⟩; refine Hid.out ?_) | fail)
          obtain ⟨hD, hF, hs2, hB2⟩ := HDD.out
          have hB3 := hB2.next hb3
          have hD3 := hD.below hb3
          have hdm : ∀ q, q < P → ((mk q && !mk2 q) = true ↔ Dm (nxF P E) r q d) := fun q hq => by
            rw [Bool.and_eq_true, Bool.not_eq_true', ← Bool.not_eq_true, HMK.out q hq, hmk2 q hq]
            unfold Dm
            constructor
            · rintro ⟨h1, h2⟩
              exact ⟨h1.mono (fun _ e => e.elim), fun h => h2 (h.mono (fun y e => by omega))⟩
            · rintro ⟨h1, h2⟩
              exact ⟨h1.mono (fun y e => by omega), fun h => h2 (h.mono (fun y e => by omega))⟩
          have HM3 := Lib.hid hm2; have HDM := Lib.hid hdm; have HB3 := Lib.hid hB3; have HD3 := Lib.hid hD3; have HF := Lib.hid hF
          have HS3 : Hid (LB + 1 + P ≤ wr2.heap.size) := Lib.hid hs2
          have HZ3 : Hid (wr2.heap.size + 1 < w3.heap.size) := Lib.hid hm2.lt
          clear hm2 hdm hB3 hD3 hF hs2 hB2 hD hb3 hmk2 y0 y1 y2 y3
          refine Lib.hid ?_
          go_wp2_with fail
          go_loopw [10] (fun iv wr3 => ∃ (p : Nat) (f : Nat → Nat → Bool), p ≤ P ∧ iv = .int .i64 (p : Int) ∧ DmAt wr3 LB P f ∧ (∀ q e, q < P → e < P → (f q e = true ↔ (e < d ∨ (e = d ∧ q < p)) ∧ Dm (nxF P E) r q e)) ∧ But (fun b => LB + 1 ≤ b ∧ b < LB + 1 + P) w3 wr3) (fun iv _ => P - (intOf iv).toNat)
          case atStart => exact ⟨0, f, Nat.zero_le _, rfl, HD3.out, fun q e hq he => (HF.out q e hq he).trans ⟨fun h => ⟨.inl h.1, h.2⟩, fun h => ⟨h.1.elim id (fun k => absurd k.2 (by omega)), h.2⟩⟩, But.refl _ _⟩
          case round =>
            obtain ⟨wr3, rfl⟩ : ∃ W3 : World, W3 = wr := ⟨_, rfl⟩
            obtain ⟨p, f3, hp, rfl, hD, hF, hB4⟩ := hrel
            have hB5 : But (fun b => b = LB) W0 wr3 := HB3.out.trans hB4 (fun k hk e => by have := HZN.out; omega)
            obtain ⟨y0, y1, y2, y3⟩ := HX2.out.but hB5 (by have := HS1.out; omega)
            by_cases hlt3 : p < P
            · have j2 : (p : Int) < (P : Int) := by omega
              have hma := HM2.out.but hB5 (by have := HS1.out; omega)
              have hml := HM3.out.but hB4 (by have := HS3.out; omega)
              have hd2 := hlt2.out
              have HH := Lib.hid (And.intro hF (And.intro hB4 hD)); have HMA := Lib.hid hma; have HML := Lib.hid hml; have HLT3 := Lib.hid hlt3
              have hP2 : P ≤ 512 := hn2
              clear hF hB4 hma hml hB5 hlt3
              go_wp2_with fail
              have hD := HH.out.2.2
              have hR := (hD.row p HLT3.out)
              refine da_region (w.heap.size + 1 + 1) (wr2.heap.size + 1) LB P p d (mk p) (mk2 p) _ _ _ _ _ _ _ _ _ _ _ _ _ _ _ _ _ _ _ _ _ _ _ _ _ _ _ _ _ _ _ _ _ _ _ _ _ _ _ _ _ _ _ _ _ _ _ _ _ _ _ _ _ _ _ _ _ _ _ HLT3.out hd2 (by omega) HMA.out.lt HML.out.lt hD.lt hR.lt (HMA.out.mc p HLT3.out) (HML.out.mc p HLT3.out) (hD.tab p HLT3.out) (hR.mc d hd2) (hR.mf d) ?_
              intro u45 u46 u47 u48 u49 u50 u51 u52 u53 u54 u55 u56 u57 u58 u59 u60 u61 w5 hq h0 h1 h2 h3 h4 h5 h6 h7 h8 h9 h10 h11 h12 h13 h14 h15 h16
              obtain ⟨w6, b6, rfl⟩ := hq
              clear h0 h1 h2 h3 h4 h5 h6 h7 h8 h9 h10 h11 h12 h13 h14 h15 h16 hD hR
              unfold daAct
              go_wp2_with fail
              go_roundw
              case rel =>
                obtain ⟨hF, hB4, hD⟩ := HH.out
                refine ⟨p + 1, fun x y => if x = p ∧ y = d then (mk p && !mk2 p) else f3 x y, HLT3.out, by go_num, (hD.below b6).set HLT3.out hd2 (fun _ _ _ _ => rfl), fun q e hq he => ?_, (hB4.next b6).set _ _ (fun _ => by have := HLT3.out; dsimp only; omega)⟩
                by_cases h : q = p ∧ e = d
                · obtain ⟨rfl, rfl⟩ := h
                  simp only [and_self, if_true]
                  rw [HDM.out q hq]
                  exact ⟨fun k => ⟨.inr ⟨trivial, by omega⟩, k⟩, fun k => k.2⟩
                · simp only [if_neg h]
                  rw [hF q e hq he]
                  refine and_congr_left fun _ => ?_
                  omega
              case measure => have := HLT3.out; simp [intOf]; omega
            · have hpm : p = P := by omega
              subst hpm
              have HH := Lib.hid (And.intro hF (And.intro hB4 (And.intro hB5 hD)))
              clear hF hB4 hB5 hD
              go_wp2_with fail
              go_roundw
              case rel =>
                obtain ⟨hF, hB4, hB5, hD⟩ := HH.out
                refine ⟨d + 1, f3, hlt2.out, by go_num, hD, fun q e hq he => (hF q e hq he).trans (and_congr_left fun _ => by omega), by have := hB4.size; have := HZ3.out; have := HS3.out; omega, hB5⟩
              case measure => have := hlt2.out; simp [intOf]; omega
        · have hdm : d = P := by omega
          subst hdm
          go_wp2_with fail
          refine bodyPost_ret (by first | (simp [results, Try.results76, go_sem]; done) | (simp [results, Try.results76, go_sem]; rfl)) rfl ?_
          obtain ⟨hD, hF, hs2, hB2⟩ := HDD.out
          exact ⟨LB, f, rfl, hD, by have := HS1.out; omega, fun q e hq he => (hF q e hq he).trans ⟨fun h => h.2, fun h => ⟨he, h⟩⟩, hs2, HBL.out⟩
end Go.Proofs.Ytjjkabgbcflipaa
namespace Go.Proofs.Ytjjkabgbcflipaa
open Go Go.Proofs Go.RowKit GM

theorem DomT.dm {nx : Nat → List Nat} {r P : Nat} {t : List Nat} {T : Nat → List Nat} (h : DomT nx r P t T) {p q : Nat} (hq : q ∈ t) (hp : p ∈ t) : (¬ (q = p ∨ q ∈ T p)) ↔ (p ≠ q ∧ Dm nx r q p) := by
  have h1 := (h.ord.mem q).1 hq
  obtain ⟨a, ha, h1⟩ := h1
  rw [List.mem_singleton] at ha
  subst ha
  have h2 := (h.wo p hp).mem q
  constructor
  · intro k
    refine ⟨fun e => k (.inl e.symm), h1, fun g => k (.inr (h2.2 ⟨a, by simp, g⟩))⟩
  · rintro ⟨k1, -, k2⟩ (k | k)
    · exact k1 k.symm
    · obtain ⟨b, hb, g⟩ := h2.1 k
      rw [List.mem_singleton] at hb
      subst hb
      exact k2 g
theorem DomT.parId {nx : Nat → List Nat} {r P : Nat} {t : List Nat} {T : Nat → List Nat} (h : DomT nx r P t T) (q : Nat) :
    (parF t T t q = -1 ∧ ∀ e, e ≠ q → ¬ Dm nx r q e) ∨ ∃ p : Nat, p < P ∧ parF t T t q = (p : Int) ∧ IsId nx r q p := by
  unfold parF
  by_cases hq : q ∈ t
  · rw [if_pos hq]
    cases hf : t.find? (fun p => !(q == p || (T p).contains q)) with
    | none =>
      refine .inl ⟨rfl, fun e he g => ?_⟩
      have het : e ∈ t := (h.ord.mem e).2 ⟨r, by simp, g.reach⟩
      have := List.find?_eq_none.1 hf e het
      have hk := (h.dm hq het).2 ⟨he, g⟩
      simp only [Bool.not_eq_true, Bool.not_eq_false', Bool.or_eq_true, beq_iff_eq, List.contains_iff_mem] at this
      exact hk this
    | some p =>
      obtain ⟨hp, u, v, ht, hu⟩ := List.find?_eq_some_iff_append.1 hf
      have hpt : p ∈ t := by rw [ht]; simp
      have hpq : p ≠ q ∧ Dm nx r q p := (h.dm hq hpt).1 (by
        intro k
        simp only [Bool.not_eq_true', Bool.or_eq_false_iff, beq_eq_false_iff_ne] at hp
        rcases k with k | k
        · exact hp.1 k
        · have := hp.2; simp [k] at this)
      refine .inr ⟨p, h.lt p hpt, rfl, first_id h.ord ht hpq (fun e he k => ?_)⟩
      have het : e ∈ t := by rw [ht]; simp [he]
      have h3 := hu e he
      have h4 := (h.dm hq het).2 k
      simp only [Bool.not_not, Bool.or_eq_true, beq_iff_eq, List.contains_iff_mem] at h3
      exact h4 h3
  · rw [if_neg hq]
    refine .inl ⟨rfl, fun e he g => hq ((h.ord.mem q).2 ⟨r, by simp, g.1⟩)⟩
theorem DomT.in_of {nx : Nat → List Nat} {r P : Nat} {t : List Nat} {T : Nat → List Nat} (h : DomT nx r P t T) {x : Nat} (g : Rch nx (fun _ => False) r x) : x < P := h.lt x ((h.ord.mem x).2 ⟨r, by simp, g⟩)
/-- Both answers are the same. -/
theorem DomT.eq {nx : Nat → List Nat} {r P : Nat} {t : List Nat} {T : Nat → List Nat} (h : DomT nx r P t T) {f : Nat → Nat → Bool} (hd : ∀ x e, x < P → e < P → (f x e = true ↔ Dm nx r x e)) {q : Nat} (hq : q < P) : immF f P q P = parF t T t q := by
  rcases immF_id hd (fun x g => h.in_of g) hq with ⟨h1, h2⟩ | ⟨p, -, h1, h2⟩
  · rcases h.parId q with ⟨h3, -⟩ | ⟨s, -, -, h4⟩
    · rw [h1, h3]
    · exact (h2 s h4.1 h4.2.1).elim
  · rcases h.parId q with ⟨-, h4⟩ | ⟨s, -, h3, h4⟩
    · exact (h4 p h2.1 h2.2.1).elim
    · rw [h1, h3, h2.unique h4]
end Go.Proofs.Ytjjkabgbcflipaa
