import Derived.Test.YtjjkabgbcflipaaCo6
import Derived.Test.YtjjkabgbcflipaaCv23
set_option linter.unusedSimpArgs false
set_option linter.unusedVariables false
namespace Go.Proofs.Ytjjkabgbcflipaa
open Go Go.Proofs Go.RowKit Go.Shelf GM

attribute [local go_sem] Oper.semAt_some

/-- What is reached, as a Bool. -/
noncomputable def rcB (nx : Nat → List Nat) (a b : Nat) : Bool := by
  classical
  exact decide (Rch nx (fun _ => False) a b)
theorem rcB_iff (nx : Nat → List Nat) (a b : Nat) : rcB nx a b = true ↔ Rch nx (fun _ => False) a b := by unfold rcB; simp
/-- The first point whose component can be numbered. -/
def okP (rc : Nat → Nat → Bool) (E : List Ed) (N : Nat → Int) (p : Nat) : Bool := decide (N p < 0) && endsB rc N p E
def fstp (rc : Nat → Nat → Bool) (P : Nat) (E : List Ed) (N : Nat → Int) : Option Nat := (List.range P).find? (okP rc E N)
def refN (rc : Nat → Nat → Bool) (P : Nat) (E : List Ed) : Nat → Nat → Int
  | 0 => fun _ => -1
  | k + 1 => match fstp rc P E (refN rc P E k) with
    | some p => fun q => if (rc p q && rc q p) = true then (k : Int) else refN rc P E k q
    | none => refN rc P E k
theorem refN_some {rc : Nat → Nat → Bool} {P : Nat} {E : List Ed} {k p : Nat} (h : fstp rc P E (refN rc P E k) = some p) : refN rc P E (k + 1) = fun q => if (rc p q && rc q p) = true then (k : Int) else refN rc P E k q := by
  show (match fstp rc P E (refN rc P E k) with | some p => fun q => if (rc p q && rc q p) = true then (k : Int) else refN rc P E k q | none => refN rc P E k) = _
  rw [h]
theorem fstp_at {rc : Nat → Nat → Bool} {P : Nat} {E : List Ed} {N : Nat → Int} {p : Nat} (hp : p < P) (h : okP rc E N p = true) (hn : ∀ q, q < p → okP rc E N q = false) : fstp rc P E N = some p := by
  unfold fstp
  rw [List.find?_eq_some_iff_append]
  refine ⟨h, List.range p, (List.range (P - p - 1)).map fun i => p + 1 + i, ?_, fun q hq => by rw [hn q (List.mem_range.1 hq)]; rfl⟩
  apply List.ext_getElem
  · simp; omega
  · intro i h1 h2
    rw [List.getElem_range]
    by_cases hi : i < p
    · rw [List.getElem_append_left (by simpa using hi), List.getElem_range]
    · rw [List.getElem_append_right (by simpa using hi)]
      by_cases e : i = p
      · subst e; simp
      · obtain ⟨j, rfl⟩ : ∃ j, i = p + 1 + j := ⟨i - p - 1, by omega⟩
        simp only [List.length_range]
        rw [List.getElem_cons]
        split
        · omega
        · rw [List.getElem_map, List.getElem_range]; omega
theorem fstp_no {rc : Nat → Nat → Bool} {P : Nat} {E : List Ed} {N : Nat → Int} (hn : ∀ q, q < P → okP rc E N q = false) : fstp rc P E N = none := by
  unfold fstp
  rw [List.find?_eq_none]
  intro q hq
  rw [hn q (List.mem_range.1 hq)]; simp
/-- How many points have no number. -/
def negC (N : Nat → Int) (P : Nat) : Nat := cntT (fun x => decide (N x < 0)) P
theorem negC_le (N : Nat → Int) (P : Nat) : negC N P ≤ P := by
  unfold negC
  induction P with
  | zero => exact Nat.le_refl _
  | succ n ih => unfold cntT; split <;> omega
theorem negC_step {rc : Nat → Nat → Bool} {P : Nat} {E : List Ed} {k p : Nat} (hrc : rc p p = true) (hp : p < P) (h : fstp rc P E (refN rc P E k) = some p) : negC (refN rc P E (k + 1)) P + 1 ≤ negC (refN rc P E k) P := by
  rw [refN_some h]
  have hok := List.find?_some h
  unfold okP at hok
  rw [Bool.and_eq_true, decide_eq_true_iff] at hok
  refine cntT_lt P (y := p) (fun x _ hx => ?_) hp (by simpa using hok.1) ?_
  · rw [decide_eq_true_iff] at hx ⊢
    dsimp only at hx
    split at hx
    · omega
    · exact hx
  · rw [decide_eq_false_iff_not]
    dsimp only
    rw [hrc]; simp
theorem NmAt.madeZ (W : World) (P : Nat) : NmAt (W.alloc (.cells (Array.replicate P (.int .i64 0)) 3)) W.heap.size P (fun _ => 0) :=
  ⟨fun k hk => made_cell W P (.int .i64 0) 3 k hk, fun k => made_free W P (.int .i64 0) 3 k, by simp⟩
set_option maxRecDepth 100000 in
set_option maxHeartbeats 2000000 in
theorem numbered_any {A : Nat → Prop} (P : Nat) (x : Int) (ao : Option Addr) (c : Nat) (E : List Ed) (w : World) (hr : ERow A w ao c E) (h0 : ckG P x E = 0) :
    Calls Try.prog 56 #[.agg #[.int .i64 (P : Int), .int .i64 x, .slice ao E.length c]] w fun e w' => ∃ g K, e = .returned (.slice (some ⟨g, 0, none⟩) P P) ∧ NmAt w' g P (refN (rcB (nxF P E)) P E K) ∧ fstp (rcB (nxF P E)) P E (refN (rcB (nxF P E)) P E K) = none ∧ Below w.heap.size w w' := by
  obtain ⟨hn1, hn2, hlen, -⟩ := ckG_ok h0
  have hre := fun W (hW : Below w.heap.size w W) => hr.keep (B := A) (But.of_below (S := fun _ => False) (w' := W) hW) (fun _ h _ => ⟨id, h⟩)
  have hA : Below w.heap.size w (w.alloc (Obj.cells #[.int .i64 (P : Int), .int .i64 x, .slice ao E.length c] 24)) := (Below.refl _ _).alloc (Nat.le_refl _) _
  have hX := GBx.new w P x ao E.length c
  have hmk := make_ints (w.alloc (Obj.cells #[.int .i64 (P : Int), .int .i64 x, .slice ao E.length c] 24)) P (by omega)
  have hz1 : (w.alloc (Obj.cells #[.int .i64 (P : Int), .int .i64 x, .slice ao E.length c] 24)).heap.size = w.heap.size + 1 := by simp
  have hnm := NmAt.madeZ (w.alloc (Obj.cells #[.int .i64 (P : Int), .int .i64 x, .slice ao E.length c] 24)) P
  rw [hz1] at hmk hnm
  have hbN : Below w.heap.size w ((w.alloc (Obj.cells #[.int .i64 (P : Int), .int .i64 x, .slice ao E.length c] 24)).alloc (.cells (Array.replicate P (.int .i64 0)) 3)) := hA.alloc (by simp) _
  have hxN := hX.below ((Below.refl (w.alloc (Obj.cells #[.int .i64 (P : Int), .int .i64 x, .slice ao E.length c] 24)).heap.size (w.alloc (Obj.cells #[.int .i64 (P : Int), .int .i64 x, .slice ao E.length c] 24))).alloc (Nat.le_refl _) (.cells (Array.replicate P (.int .i64 0)) 3))
  have hzN : ((w.alloc (Obj.cells #[.int .i64 (P : Int), .int .i64 x, .slice ao E.length c] 24)).alloc (.cells (Array.replicate P (.int .i64 0)) 3)).heap.size = w.heap.size + 1 + 1 := by simp
  have HRE := Lib.hid hre; have H0 := Lib.hid h0; have HX := Lib.hid hxN; have HB := Lib.hid hbN; have HNM := Lib.hid hnm; have HZN := Lib.hid hzN
  obtain ⟨y0, y1, y2, y3⟩ := hX
  have m0 : (0 : Int) ≤ (P : Int) := by omega
  clear hr h0 hre hA hz1 hnm hbN hxN hzN
  go_enter Try.func56, Try.ntmps56
  go_wp2_with fail
  clear y0 y1 y2 y3 hmk
  generalize ((w.alloc (Obj.cells #[.int .i64 (P : Int), .int .i64 x, .slice ao E.length c] 24)).alloc (.cells (Array.replicate P (.int .i64 0)) 3)) = W0 at *
  obtain ⟨OB, hOB⟩ : ∃ OB, w.heap.size + 1 = OB := ⟨_, rfl⟩
  have HOB : Hid (w.heap.size + 1 = OB) := Lib.hid hOB
  rw [hOB] at HNM HZN ⊢
  clear hOB
  go_loopw [5, 3] (fun iv tv wr => ∃ (k : Nat) (rs : List Nat) (F : Nat → Int), k ≤ P ∧ iv = .int .i64 (k : Int) ∧ rs.length = k ∧ RbAt (OB + 1) wr tv rs P (rcB (nxF P E)) ∧ (∀ r ∈ rs, OB + 1 ≤ r) ∧ NmAt wr OB P F ∧ (∀ x, x < k → F x = -1) ∧ But (fun b => b = OB) W0 wr) (fun iv _ _ => P - (intOf iv).toNat)
  case atStart => exact ⟨0, [], _, Nat.zero_le _, rfl, rfl, RbAt.nil, by simp, HNM.out, fun x hx => absurd hx (by omega), But.refl _ _⟩
  case round =>
    obtain ⟨wr1, rfl⟩ : ∃ W1 : World, W1 = wr := ⟨_, rfl⟩
    obtain ⟨k, rs, F, hk, rfl, hrs, hT, hge, hN, hF, hB⟩ := hrel
    obtain ⟨y0, y1, y2, y3⟩ := HX.out.but hB (by have := HOB.out; omega)
    obtain ⟨to_, tc, rfl⟩ := hT.slice
    rw [hrs] at hT ⊢
    have hbw : Below w.heap.size w wr1 := HB.out.trans ⟨hB.os, hB.tape, hB.output, hB.size, fun j hj => hB.block j (by have := HB.out.size; omega) (by have := HOB.out; omega)⟩
    by_cases hlt : k < P
    · have j1 : (k : Int) < (P : Int) := by omega
      have j0 : (0 : Int) ≤ (k : Int) := by omega
      have k1 := reached_any P x ao c E wr1 (HRE.out _ hbw) H0.out k hlt (-1)
      have K1 := Lib.hid k1; have HLT := Lib.hid hlt
      have HW1 : Hid (OB + 1 ≤ wr1.heap.size) := Lib.hid (by have := hB.size; have := HZN.out; have := HOB.out; omega)
      have HH := Lib.hid (And.intro hT (And.intro hge (And.intro hN (And.intro hF (And.intro hB (And.intro hrs hbw))))))
      clear k1 hT hge hN hF hB hlt hrs hbw hk
      go_wp2_with (first | (go_at_call 53; refine (K1.out).mono ?_; rintro e w2 ⟨mk, rfl, hm, hmk, hb⟩; refine Hid.out ?_) | fail)
      obtain ⟨hT, hge, hN, hF, hB, hrs, hbw⟩ := HH.out
      have hm2 : MkAt w2 (wr1.heap.size + 1) P (rcB (nxF P E) rs.length) := hm.congr (fun j hj => by
        rw [hrs, Bool.eq_iff_iff, rcB_iff, hmk j hj]
        exact ⟨fun h => h.mono (fun y e => by omega), fun h => h.mono (fun y e => e.elim)⟩)
      have hTb := hT.below hb
      have bA : Below w2.heap.size w2 (w2.alloc (.cells #[.slice (some ⟨wr1.heap.size + 1, 0, none⟩) P P] 33)) := (Below.refl _ _).alloc (Nat.le_refl _) _
      have hTA := hTb.below bA
      have hmA := hm2.below bA
      have hap : ¬ (Value.slice to_ k tc).ownBlock = some (wr1.heap.size + 1) := fun e => by have := (World.ownsRow.lt hT.own _ e).2; omega
      have hle : OB + 1 ≤ (w2.alloc (.cells #[.slice (some ⟨wr1.heap.size + 1, 0, none⟩) P P] 33)).heap.size := by have := bA.size; have := hb.size; have := hB.size; have := HZN.out; have := HOB.out; omega
      have hc0 : (w2.alloc (.cells #[.slice (some ⟨wr1.heap.size + 1, 0, none⟩) P P] 33)).cell? ⟨w2.heap.size, 0, none⟩ = some (.slice (some ⟨wr1.heap.size + 1, 0, none⟩) P P) := by go_cell
      have hBA := (hB.next hb).next bA
      have hNA := (hN.below hb).below bA
      have hrl : rs.length ≤ 100000 := by have := HLT.out; omega
      have HTA := Lib.hid hTA; have HMA := Lib.hid hmA; have HAP := Lib.hid hap; have HLE := Lib.hid hle; have HC0 := Lib.hid hc0; have HBA := Lib.hid hBA; have HNA := Lib.hid hNA; have HRL := Lib.hid hrl
      have HY := Lib.hid (And.intro hge (And.intro hF hrs))
      clear hT hge hN hF hB hrs hbw hm hmk hb hm2 hTb bA hTA hmA hap hle hc0 hBA hNA hrl HH K1 y0 y1 y2 y3
      refine Lib.hid ?_
      go_wp2_with (first | (at_builtin; refine wpList_pushRb (lo := OB + 1) (rs := rs) (r := wr1.heap.size + 1) rfl (.tmp 19) (.tmp 23) rfl (by simp [Act.eval, Act.put]) HTA.out HMA.out HAP.out HRL.out HLE.out w2.heap.size (by simp [Act.eval, Act.put]) HC0.out ?_; intro g9 cap n9 w9 hn9 h9 hg9; obtain rfl : n9 = k + 1 := hn9.trans (by rw [HY.out.2.2]); clear hn9; refine Hid.out ?_) | fail)
      have b9 := But.of_grown (S := fun b => (Value.slice to_ k tc).ownBlock = some b) hg9 (fun _ e => e)
      have hno : ¬ (Value.slice to_ k tc).ownBlock = some OB := fun e => by have := (World.ownsRow.lt HTA.out.own _ e).1; omega
      have hN9 := HNA.out.but b9 hno
      have z0 := hN9.nc k HLT.out
      have z1 := hN9.nf k
      have hB9 := HBA.out.trans b9 (fun k' hk' e => by have := (World.ownsRow.lt HTA.out.own _ e).1; have := HZN.out; have := HOB.out; omega)
      have H9 := Lib.hid h9; have HN9 := Lib.hid hN9; have HB9 := Lib.hid hB9
      clear h9 hg9 b9 hno hN9 hB9
      refine Lib.hid ?_
      go_wp2_with fail
      go_roundw
      case rel =>
        obtain ⟨hge, hF, hrs⟩ := HY.out
        refine ⟨k + 1, rs ++ [wr1.heap.size + 1], fun j => if j = k then -1 else F j, HLT.out, by go_num, by rw [List.length_append, hrs]; rfl, ?_, fun r hr => ?_, HN9.out.set k (-1) HLT.out (fun j _ => rfl), fun x hx => ?_, HB9.out.set _ _ (fun _ => rfl)⟩
        · exact H9.out.but ((But.refl (fun b => b = OB) w9).set ⟨OB, k, none⟩ (.int .i64 (-1)) (fun _ => rfl)) (fun b e q => by have := (World.ownsRow.lt H9.out.own _ e).1; omega) (fun j hj q => by
            have hm : (rs ++ [wr1.heap.size + 1]).getD j 0 ∈ rs ++ [wr1.heap.size + 1] := by rw [List.getD_eq_getElem?_getD, List.getElem?_eq_getElem hj]; exact List.getElem_mem hj
            rw [q] at hm
            rcases List.mem_append.1 hm with hm | hm
            · have := hge _ hm; omega
            · rw [List.mem_singleton] at hm; have := HW1.out; omega)
        · rcases List.mem_append.1 hr with hr | hr
          · exact hge r hr
          · rw [List.mem_singleton] at hr; have := HW1.out; omega
        · by_cases e : x = k
          · simp only [if_pos e]
          · simp only [if_neg e]; exact hF x (by omega)
      case measure => have := HLT.out; simp [intOf]; omega
    · have hkm : P = k := by omega
      subst hkm
      have hN0 : NmAt wr1 OB P (refN (rcB (nxF P E)) P E 0) := ⟨fun j hj => by rw [hN.nc j hj, hF j hj]; rfl, hN.nf, hN.lt⟩
      have HH := Lib.hid (And.intro hT (And.intro hge (And.intro hrs hbw))); have HN0 := Lib.hid hN0; have HB1 := Lib.hid hB
      clear hT hge hrs hN hF hB hbw hN0 hlt hk
      go_wp2_with fail
      have hrr : ∀ p, rcB (nxF P E) p p = true := fun p => (rcB_iff _ _ _).2 (.refl id)
      have HRR := Lib.hid hrr
      clear hrr y0 y1 y2 y3
      have hkeep : ∀ wr, But (fun b => b = OB) wr1 wr → Below w.heap.size w wr ∧ RbAt (OB + 1) wr (.slice to_ P tc) rs P (rcB (nxF P E)) ∧ GBx wr w.heap.size P x ao E.length c := fun wr hB => by
        obtain ⟨hT, hge, hrs, hbw⟩ := HH.out
        have ho := HOB.out
        refine ⟨hbw.trans ⟨hB.os, hB.tape, hB.output, hB.size, fun j hj => hB.block j (by have := hbw.size; omega) (by omega)⟩, hT.but hB (fun b e q => by have := (World.ownsRow.lt hT.own _ e).1; omega) (fun j hj q => ?_), (HX.out.but HB1.out (by omega)).but hB (by omega)⟩
        have hm : rs.getD j 0 ∈ rs := by rw [List.getD_eq_getElem?_getD, List.getElem?_eq_getElem hj]; exact List.getElem_mem hj
        have := hge _ hm
        omega
      have HKP := Lib.hid hkeep
      have HRS : Hid (rs.length = P) := Lib.hid HH.out.2.2.1
      clear hkeep HH HB HNM HZN HX HB1
      go_loopw [7, 6] (fun mv nv wr => ∃ (K : Nat) (more : Bool), mv = .bool more ∧ nv = .int .i64 ((if more = true then K else K + 1 : Nat) : Int) ∧ (more = false → fstp (rcB (nxF P E)) P E (refN (rcB (nxF P E)) P E K) = none) ∧ NmAt wr OB P (refN (rcB (nxF P E)) P E K) ∧ K + negC (refN (rcB (nxF P E)) P E K) P ≤ P ∧ But (fun b => b = OB) wr1 wr) (fun _ nv _ => P + 3 - (intOf nv).toNat)
      case atStart => exact ⟨0, true, rfl, rfl, fun e => (by cases e), HN0.out, by have := negC_le (refN (rcB (nxF P E)) P E 0) P; omega, But.refl _ _⟩
      case round =>
        obtain ⟨wr2, rfl⟩ : ∃ W1 : World, W1 = wr := ⟨_, rfl⟩
        obtain ⟨K, more, rfl, rfl, hno, hN, hng, hB⟩ := hrel
        cases more with
        | false =>
          have HH := Lib.hid (And.intro (hno rfl) (And.intro hN (HKP.out _ hB).1))
          clear hno hN hng hB HN0
          go_wp2_with fail
          refine bodyPost_ret (by first | (simp [results, Try.results56, go_sem]; done) | (simp [results, Try.results56, go_sem]; rfl)) rfl ?_
          exact ⟨OB, rfl, K, HH.out.2.1, HH.out.1, HH.out.2.2⟩
        | true =>
          simp only [if_true]
          have hKP : K ≤ P := by omega
          have HNO := Lib.hid (And.intro hN (And.intro hng hB))
          clear hno hN hng hB HN0
          go_wp2_with fail
          go_loopw [8, 7] (fun pv mv wr => ∃ (p : Nat) (more : Bool), pv = .int .i64 (p : Int) ∧ mv = .bool more ∧ p ≤ P ∧ (more = false → NmAt wr OB P (refN (rcB (nxF P E)) P E K) ∧ ∀ q, q < p → okP (rcB (nxF P E)) E (refN (rcB (nxF P E)) P E K) q = false) ∧ (more = true → ∃ p0, p0 < P ∧ fstp (rcB (nxF P E)) P E (refN (rcB (nxF P E)) P E K) = some p0 ∧ NmAt wr OB P (refN (rcB (nxF P E)) P E (K + 1))) ∧ But (fun b => b = OB) wr1 wr) (fun pv _ _ => P - (intOf pv).toNat)
          case atStart => exact ⟨0, false, rfl, rfl, Nat.zero_le _, fun _ => ⟨HNO.out.1, fun q hq => absurd hq (by omega)⟩, fun e => (by cases e), HNO.out.2.2⟩
          case round =>
            obtain ⟨wr3, rfl⟩ : ∃ W1 : World, W1 = wr := ⟨_, rfl⟩
            obtain ⟨p, more, rfl, rfl, hp, hf, ht, hB⟩ := hrel
            obtain ⟨hbw, hT, hgx⟩ := HKP.out _ hB
            obtain ⟨y0, y1, y2, y3⟩ := hgx
            cases more with
            | true =>
              obtain ⟨p0, hp0, hfs, hN⟩ := ht rfl
              have HH := Lib.hid (And.intro hp0 (And.intro hfs (And.intro hN hB)))
              clear hf ht hB hbw hT hp0 hfs hN
              by_cases hlt : p < P
              · have j1 : (p : Int) < (P : Int) := by omega
                go_wp2_with fail
                go_roundw
                case rel =>
                  obtain ⟨hp0, hfs, hN, hB⟩ := HH.out
                  have hs := negC_step (HRR.out p0) hp0 hfs
                  exact ⟨K + 1, true, rfl, by simp only [if_true]; go_num, fun e => (by cases e), hN, by have := HNO.out.2.1; omega, hB⟩
                case measure => simp [intOf]; omega
              · have j1 : ¬ (p : Int) < (P : Int) := by omega
                go_wp2_with fail
                go_roundw
                case rel =>
                  obtain ⟨hp0, hfs, hN, hB⟩ := HH.out
                  have hs := negC_step (HRR.out p0) hp0 hfs
                  exact ⟨K + 1, true, rfl, by simp only [if_true]; go_num, fun e => (by cases e), hN, by have := HNO.out.2.1; omega, hB⟩
                case measure => simp [intOf]; omega
            | false =>
              obtain ⟨hN, hq⟩ := hf rfl
              by_cases hlt : p < P
              rotate_left
              · have hpm : p = P := by omega
                subst hpm
                have HH := Lib.hid (And.intro hN (And.intro (fstp_no hq) hB))
                clear hf ht hB hbw hT hN hq hlt
                go_wp2_with fail
                go_roundw
                case rel =>
                  obtain ⟨hN, hfn, hB⟩ := HH.out
                  exact ⟨K, false, rfl, by simp only [Bool.false_eq_true, if_false]; go_num, fun _ => hfn, hN, by have := HNO.out.2.1; omega, hB⟩
                case measure => simp [intOf]; omega
              have j1 : (p : Int) < (P : Int) := by omega
              have j0 : (0 : Int) ≤ (p : Int) := by omega
              have z0 := hN.nc p hlt
              have hnext : okP (rcB (nxF P E)) E (refN (rcB (nxF P E)) P E K) p = false → ∀ q, q < p + 1 → okP (rcB (nxF P E)) E (refN (rcB (nxF P E)) P E K) q = false := fun e q hq1 => by
                rcases Nat.lt_succ_iff_lt_or_eq.1 hq1 with h | h
                · exact hq q h
                · rw [h]; exact e
              by_cases hneg : refN (rcB (nxF P E)) P E K p < 0
              rotate_left
              · have hok : okP (rcB (nxF P E)) E (refN (rcB (nxF P E)) P E K) p = false := by unfold okP; rw [decide_eq_false hneg]; rfl
                have hge0 : 0 ≤ refN (rcB (nxF P E)) P E K p := by omega
                have HH := Lib.hid (And.intro hN (And.intro (hnext hok) hB)); have HLT := Lib.hid hlt
                clear hf ht hB hbw hT hN hq hlt hnext hok hneg
                generalize refN (rcB (nxF P E)) P E K p = zz at *
                go_wp2_with fail
                go_roundw
                case rel => exact ⟨p + 1, false, by go_num, rfl, HLT.out, fun _ => ⟨HH.out.1, HH.out.2.1⟩, fun e => (by cases e), HH.out.2.2⟩
                case measure => have := HLT.out; simp [intOf]; omega
              have hge0 : ¬ 0 ≤ refN (rcB (nxF P E)) P E K p := by omega
              have ke := ends_any P x ao c E wr3 (HRE.out _ hbw) H0.out hlt hT HRS.out hN (co := P)
              have hokv : okP (rcB (nxF P E)) E (refN (rcB (nxF P E)) P E K) p = endsB (rcB (nxF P E)) (refN (rcB (nxF P E)) P E K) p E := by unfold okP; rw [decide_eq_true hneg, Bool.true_and]
              cases hE : endsB (rcB (nxF P E)) (refN (rcB (nxF P E)) P E K) p E with
              | false =>
                rw [hE] at ke hokv
                have KE := Lib.hid ke; have HH := Lib.hid (And.intro hN (And.intro (hnext hokv) hB)); have HLT := Lib.hid hlt
                clear hf ht hB hbw hT hN hq hlt hnext hokv hneg hE ke
                generalize refN (rcB (nxF P E)) P E K p = zz at *
                go_wp2_with (first | (go_at_call 74; refine (KE.out).mono ?_; rintro e w4 ⟨rfl, hb⟩; refine Hid.out ?_) | fail)
                have HB4 := Lib.hid hb
                clear hb
                refine Lib.hid ?_
                go_wp2_with fail
                go_roundw
                case rel => exact ⟨p + 1, false, by go_num, rfl, HLT.out, fun _ => ⟨HH.out.1.below HB4.out, HH.out.2.1⟩, fun e => (by cases e), HH.out.2.2.next HB4.out⟩
                case measure => have := HLT.out; simp [intOf]; omega
              | true =>
                rw [hE] at ke hokv
                have hfst := fstp_at hlt hokv hq
                have KE := Lib.hid ke; have HH := Lib.hid (And.intro hN (And.intro hfst hB)); have HLT := Lib.hid hlt
                clear hf ht hB hbw hT hN hq hlt hnext hokv hneg hE ke hfst
                generalize refN (rcB (nxF P E)) P E K p = zz at *
                go_wp2_with (first | (go_at_call 74; refine (KE.out).mono ?_; rintro e w4 ⟨rfl, hb⟩; refine Hid.out ?_) | fail)
                have HN4 := Lib.hid (HH.out.1.below hb); have HB4 := Lib.hid (HH.out.2.2.next hb); have HFS := Lib.hid HH.out.2.1
                clear hb HH KE y0 y1 y2 y3 z0 hge0
                refine Lib.hid ?_
                go_wp2_with fail
                go_loopw [9] (fun qv wr => ∃ (q : Nat) (F : Nat → Int), q ≤ P ∧ qv = .int .i64 (q : Int) ∧ NmAt wr OB P F ∧ (∀ y, F y = if y < q ∧ (rcB (nxF P E) p y && rcB (nxF P E) y p) = true then (K : Int) else refN (rcB (nxF P E)) P E K y) ∧ But (fun b => b = OB) wr1 wr) (fun qv _ => P - (intOf qv).toNat)
                case atStart => exact ⟨0, _, Nat.zero_le _, rfl, HN4.out, fun y => by rw [if_neg (fun h => by omega)], HB4.out⟩
                case round =>
                  obtain ⟨wr5, rfl⟩ : ∃ W1 : World, W1 = wr := ⟨_, rfl⟩
                  obtain ⟨q, F, hq, rfl, hN, hF, hB⟩ := hrel
                  obtain ⟨hbw, hT, hgx⟩ := HKP.out _ hB
                  obtain ⟨y0, y1, y2, y3⟩ := hgx
                  by_cases hlt : q < P
                  rotate_left
                  · have hqm : q = P := by omega
                    subst hqm
                    have HH := Lib.hid (And.intro hN (And.intro hF hB))
                    clear hN hF hB hbw hT hlt
                    go_wp2_with fail
                    go_roundw
                    case rel =>
                      obtain ⟨hN, hF, hB⟩ := HH.out
                      refine ⟨p + 1, true, by go_num, rfl, HLT.out, fun e => (by cases e), fun _ => ⟨p, HLT.out, HFS.out, ⟨fun j hj => ?_, hN.nf, hN.lt⟩⟩, hB⟩
                      rw [hN.nc j hj, hF j, refN_some HFS.out]
                      simp only [hj, true_and]
                    case measure => have := HLT.out; simp [intOf]; omega
                  have j2 : (q : Int) < (P : Int) := by omega
                  have j3 : (0 : Int) ≤ (q : Int) := by omega
                  have hrl := HRS.out
                  obtain ⟨tb, tc2, e2, htb, htc⟩ := hT.get (by omega)
                  have e3 : to_ = some ⟨tb, 0, none⟩ := by cases e2; rfl
                  subst e3
                  have hpP := HLT.out
                  have x0 := htc p (by omega); have x1 := htc q (by omega)
                  have x2 := (hT.row p (by omega)).mc q hlt; have x3 := (hT.row q (by omega)).mc p hpP
                  have x4 := hN.nc q hlt; have x5 := hN.nf q
                  have hstep : ∀ b : Bool, (rcB (nxF P E) p q && rcB (nxF P E) q p) = b → ∀ y, (if y < q + 1 ∧ (rcB (nxF P E) p y && rcB (nxF P E) y p) = true then (K : Int) else refN (rcB (nxF P E)) P E K y) = if y = q ∧ b = true then (K : Int) else F y := fun b hb y => by
                    rw [hF y]
                    by_cases e : y = q
                    · subst e
                      rw [hb]
                      cases b <;> simp
                    · rw [if_neg (show ¬ (y = q ∧ b = true) from fun h => e h.1)]
                      by_cases h : y < q
                      · simp only [h, show y < q + 1 by omega]
                      · simp only [h, show ¬ y < q + 1 by omega]
                  have HST := Lib.hid hstep; have HH := Lib.hid (And.intro hN hB); have HLQ := Lib.hid hlt
                  have hP3 : P ≤ 512 := hn2
                  clear hN hF hB hbw hT hlt htb htc hstep e2 hrl
                  generalize rs.getD p 0 = rp at x0 x2
                  generalize rs.getD q 0 = rq at x1 x3
                  cases ha : rcB (nxF P E) p q with
                  | false =>
                    rw [ha] at x2
                    have hst := HST.out false (by rw [ha]; rfl)
                    have HST2 := Lib.hid hst
                    clear HST hst ha x3
                    go_wp2_with fail
                    go_roundw
                    case rel => exact ⟨q + 1, F, HLQ.out, by go_num, HH.out.1, fun y => by rw [HST2.out y]; simp, HH.out.2⟩
                    case measure => have := HLQ.out; simp [intOf]; omega
                  | true =>
                    rw [ha] at x2
                    cases hb : rcB (nxF P E) q p with
                    | false =>
                      rw [hb] at x3
                      have hst := HST.out false (by rw [ha, hb]; rfl)
                      have HST2 := Lib.hid hst
                      clear HST hst ha hb
                      go_wp2_with fail
                      go_roundw
                      case rel => exact ⟨q + 1, F, HLQ.out, by go_num, HH.out.1, fun y => by rw [HST2.out y]; simp, HH.out.2⟩
                      case measure => have := HLQ.out; simp [intOf]; omega
                    | true =>
                      rw [hb] at x3
                      have hst := HST.out true (by rw [ha, hb]; rfl)
                      have HST2 := Lib.hid hst
                      clear HST hst ha hb
                      go_wp2_with fail
                      go_roundw
                      case rel => exact ⟨q + 1, fun y => if y = q then (K : Int) else F y, HLQ.out, by go_num, HH.out.1.set q (K : Int) HLQ.out (fun j _ => rfl), fun y => by rw [HST2.out y]; simp, HH.out.2.set _ _ (fun _ => rfl)⟩
                      case measure => have := HLQ.out; simp [intOf]; omega
end Go.Proofs.Ytjjkabgbcflipaa
namespace Go.Proofs.Ytjjkabgbcflipaa
open Go Go.Proofs Go.RowKit GM

/-- Two points reach each other. -/
def Mu (nx : Nat → List Nat) (a b : Nat) : Prop := Rch nx (fun _ => False) a b ∧ Rch nx (fun _ => False) b a
theorem Mu.refl (nx : Nat → List Nat) (a : Nat) : Mu nx a a := ⟨.refl id, .refl id⟩
theorem Mu.symm {nx : Nat → List Nat} {a b : Nat} (h : Mu nx a b) : Mu nx b a := ⟨h.2, h.1⟩
theorem Mu.trans {nx : Nat → List Nat} {a b c : Nat} (h : Mu nx a b) (g : Mu nx b c) : Mu nx a c := ⟨h.1.trans g.1, g.2.trans h.2⟩
theorem Rch.turn {nx nr : Nat → List Nat} (hr : ∀ a b, b ∈ nr a ↔ a ∈ nx b) {B : Nat → Prop} {a b : Nat} (h : Rch nr B a b) : Rch nx B b a := by
  induction h with
  | refl h => exact .refl h
  | step _ h1 h2 ih => exact Rch.cons h2 ((hr _ _).1 h1) ih
/-- A path between points that reach each other avoids what is closed. -/
theorem Mu.avoid {nx : Nat → List Nat} {B : Nat → Prop} (hB : ∀ x y, B x → Mu nx x y → B y) {x p : Nat} (hx : ¬ B x) (h : Mu nx x p) : Rch nx B x p := by
  have key : ∀ y, Rch nx (fun _ => False) x y → Rch nx (fun _ => False) y x → Rch nx B x y := by
    intro y g
    induction g with
    | refl _ => exact fun _ => .refl hx
    | @step b c h1 h2 h3 ih =>
      intro k
      have hb : Rch nx (fun _ => False) b x := Rch.cons id h2 k
      exact .step (ih hb) h2 fun q => hx (hB c x q ⟨k, h1.step h2 id⟩)
  exact key p h.1 h.2
/-- What is collected so far. -/
structure ScS (nx : Nat → List Nat) (ps tt : List Nat) (us : List (List Nat)) : Prop where
  clo : ∀ x y, x ∈ tt → Mu nx x y → y ∈ tt
  all : ∀ p ∈ ps, p ∈ tt
  cls : ∀ u ∈ us, ∀ a ∈ u, ∀ b, b ∈ u ↔ Mu nx a b
theorem scs_of {nx nr : Nat → List Nat} {P : Nat} {t : List Nat} (hr : ∀ a b, b ∈ nr a ↔ a ∈ nx b) (hn : ∀ a b, b ∈ nx a → a < P) (ht : VL nx (fun _ => False) (List.range P) t) :
    ∀ {ps tt us}, GR nr ps tt us → (∃ rest, t.reverse = ps ++ rest) → (∀ p ∈ ps, p < P) → ScS nx ps tt us := by
  intro ps tt us g
  induction g with
  | nil => exact fun _ _ => ⟨by simp, by simp, by simp⟩
  | @old ps tt us p g hv ih =>
    rintro ⟨rest, hrest⟩ hp
    have s := ih ⟨p :: rest, by rw [hrest]; simp⟩ (fun q hq => hp q (by simp [hq]))
    refine ⟨s.clo, fun q hq => ?_, s.cls⟩
    rcases List.mem_append.1 hq with hq | hq
    · exact s.all q hq
    · rw [List.mem_singleton] at hq
      subst hq
      exact (hv.takes q (by simp)).resolve_right (by simp)
  | @new ps tt u us p g hv hu ih =>
    rintro ⟨rest, hrest⟩ hp
    have s := ih ⟨p :: rest, by rw [hrest]; simp⟩ (fun q hq => hp q (by simp [hq]))
    have hpP : p < P := hp p (by simp)
    have hpt : p ∉ tt := by
      obtain ⟨x, hx⟩ := List.exists_mem_of_ne_nil u hu
      obtain ⟨q, hq, k⟩ := (hv.mem x).1 hx
      rw [List.mem_singleton] at hq
      subst hq
      exact k.left
    have hmem : ∀ x, x ∈ u ↔ Rch nr (fun x => x ∈ tt) p x := fun x => (hv.mem x).trans ⟨fun ⟨q, hq, k⟩ => by rw [List.mem_singleton] at hq; subst hq; exact k, fun k => ⟨p, by simp, k⟩⟩
    have hin : ∀ x, x < P → x ∈ t := fun x hx => (ht.takes x (List.mem_range.2 hx)).resolve_left id
    have htd : t = rest.reverse ++ p :: ps.reverse := by
      have := congrArg List.reverse hrest
      rw [List.reverse_reverse] at this
      rw [this]; simp
    have hnd := ht.nodup
    have hcl : ∀ x, x ∈ u ↔ Mu nx p x := by
      intro x
      rw [hmem]
      constructor
      · intro k
        have k2 : Rch nx (fun x => x ∈ tt) x p := Rch.turn hr k
        have hxt : x ∉ tt := k2.left
        have hxP : x < P := by
          rcases k2.head with e | ⟨c, hc, -⟩
          · rw [e]; exact hpP
          · exact hn x c hc
        obtain ⟨z, h1, h2, h3⟩ := ht.behind x (hin x hxP) p k2.free
        by_cases e : z = p
        · subst e; exact ⟨h2, h1⟩
        · exfalso
          have hz : z ∈ ps := by
            have hi := ((Le.idx hnd).1 h3)
            have hzt := hi.2.1
            rw [htd] at hzt
            rcases List.mem_append.1 hzt with hz | hz
            · exfalso
              have hpr : p ∉ rest.reverse := by
                rw [htd, List.nodup_append] at hnd
                exact fun j => hnd.2.2 p j p (by simp) rfl
              have h4 := hi.2.2
              rw [htd, List.idxOf_append, List.idxOf_append, if_neg hpr, if_pos hz] at h4
              have := List.idxOf_lt_length_of_mem hz
              omega
            · rcases List.mem_cons.1 hz with hz | hz
              · exact (e hz).elim
              · simpa using hz
          exact hxt (s.clo z x (s.all z hz) ⟨h2, h1⟩)
      · intro k
        have k2 : Rch nx (fun x => x ∈ tt) x p := Mu.avoid (fun a b => s.clo a b) (fun q => hpt (s.clo x p q k.symm)) k.symm
        exact Rch.turn (nx := nr) (nr := nx) (fun a b => (hr b a).symm) k2
    refine ⟨fun x y hx hm => ?_, fun q hq => ?_, fun v hv2 a ha b => ?_⟩
    · rcases List.mem_append.1 hx with hx | hx
      · exact List.mem_append_left _ (s.clo x y hx hm)
      · exact List.mem_append_right _ ((hcl y).2 (((hcl x).1 hx).trans hm))
    · rcases List.mem_append.1 hq with hq | hq
      · exact List.mem_append_left _ (s.all q hq)
      · rw [List.mem_singleton] at hq
        subst hq
        exact List.mem_append_right _ ((hcl q).2 (Mu.refl nx q))
    · rcases List.mem_append.1 hv2 with hv2 | hv2
      · exact s.cls v hv2 a ha b
      · rw [List.mem_singleton] at hv2
        subst hv2
        rw [hcl b]
        have := (hcl a).1 ha
        exact ⟨fun k => this.symm.trans k, fun k => this.trans k⟩
/-- The classes, as they are sorted. -/
structure Cls (nx : Nat → List Nat) (P : Nat) (LL : List (List Nat)) : Prop where
  ne : ∀ l ∈ LL, l ≠ []
  cls : ∀ l ∈ LL, ∀ a ∈ l, ∀ b, b ∈ l ↔ Mu nx a b
  lt : ∀ l ∈ LL, ∀ a ∈ l, a < P
  all : ∀ p, p < P → ∃ l ∈ LL, p ∈ l
  nd : LL.flatten.Nodup
  sor : ∀ l ∈ LL, l.Pairwise (· ≤ ·)
theorem cls_of {nx nr : Nat → List Nat} {P : Nat} {t : List Nat} {us LL : List (List Nat)} (hr : ∀ a b, b ∈ nr a ↔ a ∈ nx b) (hn : ∀ a b, b ∈ nx a → a < P ∧ b < P) (ht : VL nx (fun _ => False) (List.range P) t)
    (hg : GR nr t.reverse us.flatten us) (hL : GLs P us LL) : Cls nx P LL := by
  have htb := VL.bound ht P (fun q hq => List.mem_range.1 hq) (fun q _ x hx => (hn q x hx).2)
  have s := scs_of hr (fun a b h => (hn a b h).1) ht hg ⟨[], by simp⟩ (fun p hp => htb p (by simpa using hp))
  have hm : ∀ l ∈ LL, ∃ u ∈ us, ∀ x, x ∈ l ↔ x ∈ u := fun l hl => by
    obtain ⟨u, hu, rfl⟩ := List.mem_map.1 (hL.perm.mem_iff.1 hl)
    exact ⟨u, hu, fun x => mem_sortN⟩
  refine ⟨fun l hl => (hL.ne l hl).1, fun l hl a ha b => ?_, fun l hl a ha => (hL.ne l hl).2.2.1 a ha, fun p hp => ?_, ?_, fun l hl => (hL.ne l hl).2.1⟩
  · obtain ⟨u, hu, h⟩ := hm l hl
    rw [h b]
    exact s.cls u hu a ((h a).1 ha) b
  · have hpt : p ∈ t := (ht.takes p (List.mem_range.2 hp)).resolve_left id
    have := s.all p (by simpa using hpt)
    obtain ⟨u, hu, hpu⟩ := List.mem_flatten.1 this
    exact ⟨sortN u, hL.perm.mem_iff.2 (List.mem_map.2 ⟨u, hu, rfl⟩), mem_sortN.2 hpu⟩
  · have h1 : LL.flatten.Perm us.flatten := (hL.perm.flatten).trans (by
      clear hL hg s hm
      induction us with
      | nil => exact List.Perm.refl _
      | cons u us ih =>
        rw [List.map_cons, List.flatten_cons, List.flatten_cons]
        exact List.Perm.append (List.mergeSort_perm u _) ih)
    exact h1.nodup_iff.2 hg.nodup
end Go.Proofs.Ytjjkabgbcflipaa
namespace Go.Proofs.Ytjjkabgbcflipaa
open Go Go.Proofs Go.RowKit GM

theorem len_sub : ∀ (a b : List (List Nat)), a.Nodup → (∀ x ∈ a, x ∈ b) → a.length ≤ b.length
  | [], _, _, _ => Nat.zero_le _
  | x :: a, b, h, hs => by
    rw [List.nodup_cons] at h
    have := len_sub a (b.erase x) h.2 (fun y hy => by
      have hne : y ≠ x := fun e => h.1 (e ▸ hy)
      exact (List.mem_erase_of_ne hne).2 (hs y (by simp [hy])))
    have hx := hs x (by simp)
    rw [List.length_erase_of_mem hx] at this
    have := List.length_pos_of_mem hx
    rw [List.length_cons]
    omega
theorem ex_min {S : Nat → Prop} (m : Nat → Nat) : ∀ (k x : Nat), m x ≤ k → S x → ∃ x, S x ∧ ∀ y, S y → m x ≤ m y
  | 0, x, h, hx => ⟨x, hx, fun y _ => by omega⟩
  | k + 1, x, h, hx => by
    by_cases g : ∃ y, S y ∧ m y < m x
    · obtain ⟨y, hy, hm⟩ := g
      exact ex_min m k y (by omega) hy
    · exact ⟨x, hx, fun y hy => Nat.le_of_not_lt fun q => g ⟨y, hy, q⟩⟩
theorem flat_apart : ∀ L : List (List Nat), L.flatten.Nodup → L.Pairwise fun a b => ∀ x ∈ a, x ∉ b
  | [], _ => .nil
  | a :: L, h => by
    rw [List.flatten_cons, List.nodup_append] at h
    refine .cons (fun b hb x hx hxb => h.2.2 x hx x (List.mem_flatten.2 ⟨b, hb, hxb⟩) rfl) (flat_apart L h.2.1)
section
variable {nx : Nat → List Nat} {P : Nat} {LL : List (List Nat)}
theorem Cls.same (C : Cls nx P LL) {l m : List Nat} (hl : l ∈ LL) (hm : m ∈ LL) {p : Nat} (h1 : p ∈ l) (h2 : p ∈ m) : l = m := by
  refine Classical.byContradiction fun hne => ?_
  have hnd := flat_apart LL C.nd
  have key : ∀ L : List (List Nat), (L.Pairwise fun a b => ∀ x ∈ a, x ∉ b) → l ∈ L → m ∈ L → False := by
    intro L hL
    induction hL with
    | nil => intro h; simp at h
    | @cons a L ha _ ih =>
      intro hl hm
      rcases List.mem_cons.1 hl with e1 | e1
      · rcases List.mem_cons.1 hm with e2 | e2
        · exact hne (e1.trans e2.symm)
        · exact ha m e2 p (e1 ▸ h1) h2
      · rcases List.mem_cons.1 hm with e2 | e2
        · exact ha l e1 p (e2 ▸ h2) h1
        · exact ih e1 e2
  exact key LL hnd hl hm
theorem Cls.nodup (C : Cls nx P LL) : LL.Nodup := by
  have hnd := flat_apart LL C.nd
  have hne := C.ne
  have key : ∀ L : List (List Nat), (L.Pairwise fun a b => ∀ x ∈ a, x ∉ b) → (∀ l ∈ L, l ≠ []) → L.Nodup := by
    intro L hL
    induction hL with
    | nil => intro _; simp
    | @cons a L ha _ ih =>
      intro h
      rw [List.nodup_cons]
      refine ⟨fun k => ?_, ih fun l hl => h l (by simp [hl])⟩
      obtain ⟨x, hx⟩ := List.exists_mem_of_ne_nil a (h a (by simp))
      exact ha a k x hx hx
  exact key LL hnd hne
/-- What is numbered so far. -/
structure NumS (nx : Nat → List Nat) (LL : List (List Nat)) (N : Nat → Int) (ch : List (List Nat)) : Prop where
  sub : ∀ l ∈ ch, l ∈ LL
  nd : ch.Nodup
  num : ∀ p, (∃ j l, ch[j]? = some l ∧ p ∈ l ∧ N p = ((j : Nat) : Int)) ∨ ((∀ l ∈ ch, p ∉ l) ∧ N p = -1)
  edge : ∀ j l, ch[j]? = some l → ∀ a ∈ l, ∀ b ∈ nx a, b ∈ l ∨ (0 ≤ N b ∧ N b < ((j : Nat) : Int))
theorem NumS.zero : NumS nx LL (compN nx LL 0) [] := ⟨by simp, by simp, fun p => .inr ⟨by simp, rfl⟩, by simp⟩
theorem NumS.uni (C : Cls nx P LL) {N : Nat → Int} {ch : List (List Nat)} (s : NumS nx LL N ch) {j : Nat} {l : List Nat} (hj : ch[j]? = some l) {p : Nat} (hp : p ∈ l) : N p = (j : Int) := by
  have hl : l ∈ ch := List.mem_of_getElem? hj
  rcases s.num p with ⟨i, m, hi, hm, e⟩ | ⟨h, -⟩
  · have : l = m := C.same (s.sub l hl) (s.sub m (List.mem_of_getElem? hi)) hp hm
    subst this
    have h1 := (List.getElem?_eq_some_iff.1 hi).1
    have e2 : i = j := by
      rw [← hj] at hi
      exact (List.getElem?_inj h1 s.nd).1 hi
    rw [e, e2]
  · exact (h l hl hp).elim
/-- While a point has no number, some class is free. -/
theorem NumS.free (C : Cls nx P LL) (hn : ∀ a b, b ∈ nx a → a < P ∧ b < P) {N : Nat → Int} {ch : List (List Nat)} (s : NumS nx LL N ch) {p : Nat} (hp : p < P) (h0 : N p = -1) : ∃ g ∈ LL, freeG nx N g = true := by
  classical
  obtain ⟨x, ⟨hx, hx0⟩, hmin⟩ := ex_min (S := fun x => x < P ∧ N x = -1) (fun x => cntT (fun y => decide (Rch nx (fun _ => False) x y)) P) _ p (Nat.le_refl _) ⟨hp, h0⟩
  obtain ⟨g, hg, hxg⟩ := C.all x hx
  refine ⟨g, hg, ?_⟩
  have hneg : ∀ a ∈ g, N a = -1 := fun a ha => by
    rcases s.num a with ⟨i, m, hi, hm, e⟩ | ⟨-, e⟩
    · have : g = m := C.same hg (s.sub m (List.mem_of_getElem? hi)) ha hm
      subst this
      have := s.uni C hi hxg
      omega
    · exact e
  refine freeG_yes ?_ ?_
  · have hne := C.ne g hg
    have hm : atD g 0 ∈ g := atD_mem (List.length_pos_iff.2 hne)
    rw [hneg _ hm]
    omega
  · intro q hq
    obtain ⟨a, ha, hqa⟩ := List.mem_flatMap.1 hq
    unfold okN
    rw [Bool.or_eq_true, List.contains_iff_mem, decide_eq_true_iff]
    by_cases hqg : q ∈ g
    · exact .inl hqg
    · refine .inr ?_
      obtain ⟨haP, hqP⟩ := hn a q hqa
      rcases s.num q with ⟨i, m, hi, hm, e⟩ | ⟨-, e⟩
      · omega
      · exfalso
        have hxa := (C.cls g hg x hxg a).1 ha
        have hxq : Rch nx (fun _ => False) x q := .step hxa.1 hqa id
        have hle := hmin q ⟨hqP, e⟩
        have hlt : cntT (fun y => decide (Rch nx (fun _ => False) q y)) P < cntT (fun y => decide (Rch nx (fun _ => False) x y)) P := by
          refine cntT_lt P (y := x) (fun z _ h => ?_) hx (by simpa using Rch.refl id) ?_
          · rw [decide_eq_true_iff] at h ⊢
            exact hxq.trans h
          · rw [decide_eq_false_iff_not]
            exact fun k => hqg ((C.cls g hg x hxg q).2 ⟨hxq, k⟩)
        omega
theorem NumS.next (C : Cls nx P LL) {N : Nat → Int} {ch : List (List Nat)} {g : List Nat} (s : NumS nx LL N ch) (hg : g ∈ LL) (hf : freeG nx N g = true) : NumS nx LL (fun p => if p ∈ g then (ch.length : Int) else N p) (ch ++ [g]) ∧ ∀ p ∈ g, N p = -1 := by
  unfold freeG at hf
  rw [Bool.and_eq_true, decide_eq_true_iff, List.all_eq_true, head_at] at hf
  obtain ⟨h1, h2⟩ := hf
  have hm : atD g 0 ∈ g := atD_mem (List.length_pos_iff.2 (C.ne g hg))
  have hneg : ∀ a ∈ g, N a = -1 := fun a ha => by
    rcases s.num a with ⟨i, m, hi, hm2, e⟩ | ⟨-, e⟩
    · have : g = m := C.same hg (s.sub m (List.mem_of_getElem? hi)) ha hm2
      subst this
      have := s.uni C hi hm
      omega
    · exact e
  have hno : g ∉ ch := fun k => by
    obtain ⟨j, hj⟩ := List.getElem?_of_mem k
    have := s.uni C hj hm
    have := hneg _ hm
    omega
  have hdis : ∀ l ∈ ch, ∀ a ∈ l, a ∉ g := fun l hl a ha k => hno (by rw [← C.same (s.sub l hl) hg ha k]; exact hl)
  refine ⟨⟨fun l hl => ?_, ?_, fun p => ?_, fun j l hj a ha b hb => ?_⟩, hneg⟩
  · rcases List.mem_append.1 hl with hl | hl
    · exact s.sub l hl
    · rw [List.mem_singleton] at hl; subst hl; exact hg
  · rw [List.nodup_append]
    exact ⟨s.nd, by simp, fun a ha b hb e => by rw [List.mem_singleton] at hb; rw [e, hb] at ha; exact hno ha⟩
  · by_cases hp : p ∈ g
    · refine .inl ⟨ch.length, g, by simp, hp, by simp only [if_pos hp]⟩
    · rcases s.num p with ⟨j, l, hj, hl, e⟩ | ⟨h, e⟩
      · refine .inl ⟨j, l, ?_, hl, by simp only [if_neg hp]; exact e⟩
        rw [List.getElem?_append_left (List.getElem?_eq_some_iff.1 hj).1]; exact hj
      · refine .inr ⟨fun l hl => ?_, by simp only [if_neg hp]; exact e⟩
        rcases List.mem_append.1 hl with hl | hl
        · exact h l hl
        · rw [List.mem_singleton] at hl; subst hl; exact hp
  · by_cases hjl : j < ch.length
    · rw [List.getElem?_append_left hjl] at hj
      rcases s.edge j l hj a ha b hb with k | ⟨k1, k2⟩
      · exact .inl k
      · have hbg : b ∉ g := fun q => by have := hneg b q; omega
        simp only [if_neg hbg]
        exact .inr ⟨k1, k2⟩
    · have hj2 := (List.getElem?_eq_some_iff.1 hj).1
      rw [List.length_append, List.length_singleton] at hj2
      obtain rfl : j = ch.length := by omega
      rw [List.getElem?_append_right (Nat.le_refl _)] at hj
      simp at hj
      subst hj
      have := h2 b (List.mem_flatMap.2 ⟨a, ha, hb⟩)
      unfold okN at this
      rw [Bool.or_eq_true, List.contains_iff_mem, decide_eq_true_iff] at this
      rcases this with k | k
      · exact .inl k
      · have hbg : b ∉ g := fun q => by have := hneg b q; omega
        simp only [if_neg hbg]
        refine .inr ⟨k, ?_⟩
        rcases s.num b with ⟨i, m, hi, -, e⟩ | ⟨-, e⟩
        · rw [e]
          have := (List.getElem?_eq_some_iff.1 hi).1
          omega
        · omega
theorem NumS.covers (C : Cls nx P LL) {N : Nat → Int} {ch : List (List Nat)} (s : NumS nx LL N ch) (h : LL.length ≤ ch.length) {p : Nat} (hp : p < P) : ∃ j l, ch[j]? = some l ∧ p ∈ l ∧ N p = ((j : Nat) : Int) := by
  rcases s.num p with k | ⟨k, -⟩
  · exact k
  · exfalso
    obtain ⟨l, hl, hpl⟩ := C.all p hp
    have hlc : l ∉ ch := fun q => k l q hpl
    have := len_sub (l :: ch) LL (List.nodup_cons.2 ⟨hlc, s.nd⟩) (fun x hx => by
      rcases List.mem_cons.1 hx with e | e
      · rw [e]; exact hl
      · exact s.sub x e)
    rw [List.length_cons] at this
    omega
theorem NumS.open_ (C : Cls nx P LL) {N : Nat → Int} {ch : List (List Nat)} (s : NumS nx LL N ch) (h : ch.length < LL.length) : ∃ p, p < P ∧ N p = -1 := by
  refine Classical.byContradiction fun hno => ?_
  have := len_sub LL ch C.nodup (fun l hl => by
    obtain ⟨p, hp⟩ := List.exists_mem_of_ne_nil l (C.ne l hl)
    rcases s.num p with ⟨j, m, hj, hm, -⟩ | ⟨-, e⟩
    · have hmc := List.mem_of_getElem? hj
      rw [C.same hl (s.sub m hmc) hp hm]; exact hmc
    · exact (hno ⟨p, C.lt l hl p hp, e⟩).elim)
  omega
/-- All steps. -/
theorem nums_of (C : Cls nx P LL) (hn : ∀ a b, b ∈ nx a → a < P ∧ b < P) : ∀ k, k ≤ LL.length → ∃ ch, ch.length = k ∧ NumS nx LL (compN nx LL k) ch
  | 0, _ => ⟨[], rfl, NumS.zero⟩
  | k + 1, hk => by
    obtain ⟨ch, hch, s⟩ := nums_of C hn k (by omega)
    obtain ⟨p, hp, h0⟩ := s.open_ C (by omega)
    obtain ⟨g, hg, hf⟩ := s.free C hn hp h0
    have hfi : ∃ g', LL.find? (freeG nx (compN nx LL k)) = some g' := by
      cases h : LL.find? (freeG nx (compN nx LL k)) with
      | none => exact ((List.find?_eq_none.1 h g hg) hf).elim
      | some g' => exact ⟨g', rfl⟩
    obtain ⟨g', hg'⟩ := hfi
    have h1 := List.find?_some hg'
    have h2 := List.mem_of_find?_eq_some hg'
    have h3 := (s.next C h2 h1).1
    refine ⟨ch ++ [g'], by rw [List.length_append, hch]; rfl, ?_⟩
    have e : compN nx LL (k + 1) = fun p => if p ∈ g' then (ch.length : Int) else compN nx LL k p := by
      funext p
      rw [compN_succ, hch]
      unfold putN freeL
      rw [hg']
      rfl
    rw [e]
    exact h3
end
end Go.Proofs.Ytjjkabgbcflipaa
