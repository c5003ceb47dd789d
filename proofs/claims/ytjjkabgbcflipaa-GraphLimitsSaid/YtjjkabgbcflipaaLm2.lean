import Derived.Test.YtjjkabgbcflipaaLm1
import Derived.Test.YtjjkabgbcflipaaCu27
set_option linter.unusedSimpArgs false
set_option linter.unusedVariables false
namespace Go.Proofs.Ytjjkabgbcflipaa
open Go Go.Proofs Go.RowKit Go.Shelf GM

attribute [local go_sem] Oper.semAt_some

/-- A long path: its first k edges. -/
def pthE (m k : Nat) : List Ed := if m = 0 then [] else (List.range k).map fun i => zE ((i % m : Nat) : Int) (((i + 1) % m : Nat) : Int)
theorem pthE_zero (m : Nat) : pthE m 0 = [] := by unfold pthE; split <;> simp
theorem pthE_no (k : Nat) : pthE 0 k = [] := by unfold pthE; simp
theorem pthE_len {m k : Nat} (h : 0 < m) : (pthE m k).length = k := by unfold pthE; rw [if_neg (by omega)]; simp
theorem pthE_le (m k : Nat) : (pthE m k).length ≤ k := by unfold pthE; split <;> simp
theorem pthE_succ {m k : Nat} (h : 0 < m) : pthE m (k + 1) = pthE m k ++ [zE ((k % m : Nat) : Int) (((k + 1) % m : Nat) : Int)] := by
  unfold pthE; rw [if_neg (by omega), if_neg (by omega), List.range_succ, List.map_append, List.map_cons, List.map_nil]
theorem pthE_at {m k j : Nat} (h : 0 < m) (hj : j < k) : edD (pthE m k) j = zE ((j % m : Nat) : Int) (((j + 1) % m : Nat) : Int) := by
  rw [edD_eq (by rw [pthE_len h]; exact hj)]
  unfold pthE
  simp only [if_neg (show ¬ m = 0 by omega), List.getElem_map, List.getElem_range]
theorem pth_rch {m k p : Nat} (hm : 0 < m) (hp : p < m) : Rch (nxF m (pthE m k)) (fun _ => False) 0 p ↔ p ≤ k := by
  constructor
  · intro h
    cases h with
    | refl _ => omega
    | @step b _ h1 h2 h3 =>
      by_cases hb : b < m
      · obtain ⟨j, hj, e1, e2⟩ := (nx_mem (fun d => d.f) (fun d => d.t) (pthE m k) hb).1 h2
        rw [pthE_len hm] at hj
        rw [pthE_at hm hj] at e2
        have e3 : (zE ((j % m : Nat) : Int) (((j + 1) % m : Nat) : Int)).t = (((j + 1) % m : Nat) : Int) := rfl
        rw [e3, Int.toNat_natCast] at e2
        have := Nat.mod_le (j + 1) m
        omega
      · exfalso
        have : nxF m (pthE m k) b = [] := by unfold nxF nxt; rw [lsN_out _ _ hb]; rfl
        rw [this] at h2; simp at h2
  · intro h
    induction p with
    | zero => exact .refl id
    | succ q ih =>
      refine .step (ih (by omega) (by omega)) ?_ id
      refine (nx_mem (fun d => d.f) (fun d => d.t) (pthE m k) (by omega)).2 ⟨q, by rw [pthE_len hm]; omega, ?_, ?_⟩
      · rw [pthE_at hm (by omega)]
        show ((q % m : Nat) : Int) = (q : Int)
        rw [Nat.mod_eq_of_lt (by omega)]
      · rw [pthE_at hm (by omega)]
        show (((q + 1) % m : Nat) : Int).toNat = q + 1
        rw [Int.toNat_natCast, Nat.mod_eq_of_lt hp]
/-- What the memory has when the graph is made. -/
def lmW (w : World) (m : Nat) : World := w.alloc (Obj.cells #[.int .i64 (m : Int), .int .i64 0, nilS] 24)
set_option maxRecDepth 100000 in
set_option maxHeartbeats 1000000 in
theorem limits_walk (a b : Nat) (w : World) (ha : a < 65536) (hb : b < 65536) :
    Calls Try.prog 4 #[.int .u16 (a : Int), .int .u16 (b : Int)] w fun e w' => e = .returned (.bool true) ∧ Below w.heap.size w w' := by
  have v1 : (a : Int).tmod 515 = ((a % 515 : Nat) : Int) := by rw [Int.tmod_eq_emod_of_nonneg (by omega)]; omega
  have v2 : (b : Int).tmod 1027 = ((b % 1027 : Nat) : Int) := by rw [Int.tmod_eq_emod_of_nonneg (by omega)]; omega
  have hm : a % 515 ≤ 514 := by omega
  have hk9 : b % 1027 ≤ 1026 := by omega
  have v3 : (a : Int).toNat = a := by omega
  have v4 : -2 ^ 63 ≤ (a : Int) ∧ (a : Int) < 2 ^ 63 := by omega
  have v5 : -2 ^ 63 ≤ (b : Int) ∧ (b : Int) < 2 ^ 63 := by omega
  have KW := Lib.hid awake_any
  generalize a % 515 = m at *
  generalize b % 1027 = K at *
  go_enter Try.func4, Try.ntmps4
  go_wp2_with fail
  have hz0 : (w.alloc (Obj.cells #[.int .i64 (m : Int), .int .i64 0, nilS] 24)).heap.size = w.heap.size + 1 := by simp
  have b0 : Below w.heap.size w (w.alloc (Obj.cells #[.int .i64 (m : Int), .int .i64 0, nilS] 24)) := (Below.refl _ _).alloc (Nat.le_refl _) _
  have hg0 := GBx.new w m 0 none 0 0
  have f0 : ∀ j, (w.alloc (Obj.cells #[.int .i64 (m : Int), .int .i64 0, nilS] 24)).frozen? ⟨w.heap.size, j, none⟩ = false := fun j => frozen_of_row _ _ j _ _ (heap_alloc_last _ _)
  have HZ0 := Lib.hid hz0; have B0 := Lib.hid b0; have G0 := Lib.hid hg0; have F0 := Lib.hid f0
  clear hz0 b0 hg0 f0
  generalize (w.alloc (Obj.cells #[.int .i64 (m : Int), .int .i64 0, nilS] 24)) = W0 at *
  go_loopw [20] (fun iv wr => ∃ (k : Nat) (vo : Option Addr) (vc : Nat), k ≤ K ∧ iv = .int .i64 (k : Int) ∧ EOwn (w.heap.size + 1) wr (.slice vo (pthE m k).length vc) (pthE m k) ∧ GBx wr w.heap.size m 0 vo (pthE m k).length vc ∧ (∀ j, wr.frozen? ⟨w.heap.size, j, none⟩ = false) ∧ But (fun b => b = w.heap.size) W0 wr) (fun iv _ => K - (intOf iv).toNat)
  case atStart => exact ⟨0, none, 0, Nat.zero_le _, rfl, by rw [pthE_zero]; exact EOwn.nil, by rw [pthE_zero]; exact G0.out, F0.out, But.refl _ _⟩
  case round =>
    obtain ⟨wr1, rfl⟩ : ∃ W1 : World, W1 = wr := ⟨_, rfl⟩
    obtain ⟨k, vo, vc, hk, rfl, hown, hgb, hff, hB⟩ := hrel
    have hwz : w.heap.size + 1 ≤ wr1.heap.size := by have := hB.size; have := HZ0.out; omega
    by_cases hlt : k < K
    · have j1 : (k : Int) < (K : Int) := by omega
      by_cases hm0 : m = 0
      · subst hm0
        have HH := Lib.hid (And.intro hown (And.intro hgb (And.intro hff hB))); have HLT := Lib.hid hlt
        clear hown hgb hff hB hlt
        go_wp2_with fail
        go_roundw
        case rel =>
          obtain ⟨hown, hgb, hff, hB⟩ := HH.out
          exact ⟨k + 1, vo, vc, HLT.out, by go_num, by rw [pthE_no] at hown ⊢; exact hown, by rw [pthE_no] at hgb ⊢; exact hgb, hff, hB⟩
        case measure => have := HLT.out; simp [intOf]; omega
      · have hm1 : 0 < m := by omega
        have j2 : (0 : Int) < (m : Int) := by omega
        have hlen := pthE_len (k := k) hm1
        have HH := Lib.hid (And.intro hown (And.intro hgb (And.intro hff hB))); have HLT := Lib.hid hlt; have HWZ := Lib.hid hwz; have HM1 := Lib.hid hm1
        clear hown hgb hff hB hlt hwz hlen hm1
        go_wp2_with fail
        have hH := HH.out
        refine lm_region (w.heap.size + 1) w.heap.size m k _ _ (.slice vo (pthE m k).length vc) (pthE m k) _ _ _ _ _ _ _ _ _ _ _ _ _ _ _ _ _ _ _ _ _ _ _ _ _ _ _ _ _ _ _ _ _ _ _ _ _ _ _ _ _ _ _ _ _ _ _ _ _ _ _ _ _ _ _ _ _ _ _ _ _ _ _ _ _ _ _ _ _ _ _ _ _ _ _ _ _ _ _ _ _ _ (by have := pthE_le m k; omega) HM1.out (by omega) (by omega) (Lib.hid rfl) (Lib.hid rfl) (by have := HWZ.out; omega) (fun b' e q => by have := (hH.1.lt e).1; omega) hH.2.1.c2 (hH.2.2.1 2) hH.1 HWZ.out ?_
        intro u25 u26 u27 u28 u29 u30 u31 u32 u33 u34 u35 u36 u37 w5 hq h0 h1 h2 h3 h4 h5 h6 h7 h8 h9 h12
        obtain ⟨e1, e2, ⟨g9, n9, cap, rfl, hg9⟩, w6, b6, rfl⟩ := hq
        clear h0 h1 h2 h3 h4 h5 h6 h7 h8 h9 h12
        obtain ⟨hown, hgb, hff, hB⟩ := hH
        have hno : ¬ (Value.slice vo (pthE m k).length vc).ownBlock = some w.heap.size := fun e => by have := (hown.lt e).1; omega
        have d0 := (b6.cell (p := ⟨w.heap.size, 0, none⟩) (by have := HWZ.out; dsimp only; omega) hno).trans hgb.c0
        have d1 := (b6.cell (p := ⟨w.heap.size, 1, none⟩) (by have := HWZ.out; dsimp only; omega) hno).trans hgb.c1
        have df := fun j => (b6.frozen (p := ⟨w.heap.size, j, none⟩) (by have := HWZ.out; dsimp only; omega) hno).trans (hff j)
        have hb6 := hB.trans b6 (fun k' hk' e => by have := (hown.lt e).1; have := HZ0.out; omega)
        have hlen9 : n9 = (pthE m (k + 1)).length := by
          obtain ⟨ao9, c9, e9⟩ := e1.slice
          rw [pthE_succ HM1.out]
          cases e9; rfl
        subst hlen9
        have E1 := Lib.hid e1; have E2 := Lib.hid e2; have D0 := Lib.hid d0; have D1 := Lib.hid d1; have DF := Lib.hid df; have HB6 := Lib.hid hb6
        have HS6 : Hid (w.heap.size < w6.heap.size) := Lib.hid (by have := b6.size; have := HWZ.out; omega)
        clear e1 e2 d0 d1 df hb6 b6 hno hown hgb hff hB
        unfold lmAct
        go_wp2_with fail
        go_roundw
        case rel =>
          refine ⟨k + 1, _, _, HLT.out, by go_num, ?_, ⟨?_, ?_, E2.out, by rw [World.size_setCell]; exact HS6.out⟩, fun j => ?_, HB6.out.set _ _ (fun _ => rfl)⟩
          · have h := E1.out
            rw [← pthE_succ HM1.out] at h; exact h
          · rw [World.cell?_setCell_other (h := by intro q; cases q)]; exact D0.out
          · rw [World.cell?_setCell_other (h := by intro q; cases q)]; exact D1.out
          · rw [World.frozen?_setCell]; exact DF.out j
        case measure => have := HLT.out; simp [intOf]; omega
    · have hkm : k = K := by omega
      subst hkm
      have hr := hown.row
      have hle := pthE_le m k
      have hbl : Below w.heap.size w wr1 := B0.out.trans ⟨hB.os, hB.tape, hB.output, hB.size, fun j hj => hB.block j (by have := HZ0.out; omega) (by omega)⟩
      have HGB := Lib.hid hgb; have HBL := Lib.hid hbl
      have hpth := fun p (h1 : 0 < m) (h2 : p < m) => pth_rch (k := k) h1 h2
      have hpl := fun (h1 : 0 < m) => pthE_len (k := k) h1
      have HPTH := Lib.hid hpth; have HPL := Lib.hid hpl
      obtain ⟨y0, y1, y2, y3⟩ := hgb
      clear hown hff hB hbl hpth hpl
      generalize pthE m k = E at *
      have hr2 : ∀ W, Below wr1.heap.size wr1 W → ERow (fun b => w.heap.size + 1 ≤ b) W vo vc E := fun W hW => hr.keep (But.of_below (S := fun _ => False) hW) (fun _ h _ => ⟨id, h⟩)
      have HR := Lib.hid hr2
      clear hr hr2
      obtain ⟨kg, hkg⟩ : ∃ kg, ckG (m : Int) 0 E = kg := ⟨_, rfl⟩
      have C1 := fun W hW => check_any (m : Int) 0 vo vc E W (HR.out W hW)
      have C2 := fun W hW => refCheck_any (m : Int) 0 vo vc E W (HR.out W hW)
      have C3 := fun W hW => reach_any (m : Int) 0 vo vc E W (HR.out W hW) 0
      rw [hkg] at C1 C2
      have HC1 := Lib.hid C1; have HC2 := Lib.hid C2; have HC3 := Lib.hid C3; have HKG := Lib.hid hkg
      clear C1 C2 C3 hkg
      go_wp2_with (first | (go_at_call 21; refine (HC1.out _ (Below.refl _ _)).mono ?_; rintro e w1 ⟨rfl, hb⟩; refine Hid.out ?_) | fail)
      have HB1 := Lib.hid hb
      obtain ⟨y0, y1, y2, y3⟩ := HGB.out.below hb
      clear hb
      refine Lib.hid ?_
      by_cases h0 : kg = 0
      rotate_left
      · have t1 : ((kg : Int) != 0) = true := by rw [bne_iff_ne]; omega
        have t2 : ((kg : Int) != (kg : Int)) = false := by simp
        have H0 := Lib.hid h0
        clear h0
        go_wp2_with (first | (go_at_call 19; refine (HC3.out _ HB1.out).mono ?_; rintro e w2 ⟨hb, ⟨hq, rfl⟩ | ⟨hq, -⟩ | ⟨hq, -⟩⟩; rotate_left; exact absurd (HKG.out.symm.trans hq) H0.out; exact absurd (HKG.out.symm.trans hq) H0.out; rw [HKG.out]; clear hq; refine Hid.out ?_) | fail)
        have HB2 := Lib.hid (Below.chain HB1.out hb)
        obtain ⟨y0, y1, y2, y3⟩ := HGB.out.below HB2.out
        clear hb
        refine Lib.hid ?_
        go_wp2_with (first | (go_at_call 14; refine (KW.out _).mono ?_; rintro e w3 ⟨rfl, hb⟩; refine Hid.out ?_) | fail)
        have HB3 := Lib.hid (Below.chain HB2.out hb)
        obtain ⟨y0, y1, y2, y3⟩ := HGB.out.below HB3.out
        clear hb
        refine Lib.hid ?_
        go_wp2_with (first | (go_at_call 22; refine (HC2.out _ HB3.out).mono ?_; rintro e w4 ⟨rfl, hb⟩; refine Hid.out ?_) | fail)
        have HB4 := Lib.hid (Below.chain HB3.out hb)
        clear hb
        refine Lib.hid ?_
        go_wp2_with fail
        refine bodyPost_ret (by first | (simp [results, Try.results4, go_sem]; done) | (simp [results, Try.results4, go_sem]; rfl)) rfl ?_
        exact ⟨rfl, HBL.out.trans (HB4.out.mono HBL.out.size)⟩
      · subst h0
        obtain ⟨hn1, hn2, hln, -⟩ := ckG_ok HKG.out
        have hpt : isPt (m : Int) 0 = true := isPt_of ⟨by omega, by omega⟩
        have HPT := Lib.hid hpt; have HN1 := Lib.hid hn1; have HLN := Lib.hid hln
        clear hpt hn1 hln
        go_wp2_with (first | (go_at_call 19; refine (HC3.out _ HB1.out).mono ?_; rintro e w2 ⟨hb, ⟨hq, -⟩ | ⟨-, hq, -⟩ | ⟨-, -, M, tt, rfl, hv, hmm, hM⟩⟩; exact absurd HKG.out hq; exact absurd (HPT.out.symm.trans hq) (by decide); refine Hid.out ?_) | fail)
        rw [Int.toNat_natCast] at hv hmm
        have HB2 := Lib.hid (Below.chain HB1.out hb)
        obtain ⟨y0, y1, y2, y3⟩ := HGB.out.below HB2.out
        have HV := Lib.hid hv; have HMM := Lib.hid hmm
        clear hb hv hmm hM
        refine Lib.hid ?_
        go_wp2_with (first | (go_at_call 14; refine (KW.out _).mono ?_; rintro e w3 ⟨rfl, hb⟩; refine Hid.out ?_) | fail)
        have HB3 := Lib.hid (Below.chain HB2.out hb)
        obtain ⟨y0, y1, y2, y3⟩ := HGB.out.below HB3.out
        have hm3 := HMM.out.below hb
        have HM3 := Lib.hid hm3
        clear hb hm3
        refine Lib.hid ?_
        go_wp2_with (first | (go_at_call 22; refine (HC2.out _ HB3.out).mono ?_; rintro e w4 ⟨rfl, hb⟩; refine Hid.out ?_) | fail)
        have HB4 := Lib.hid (Below.chain HB3.out hb)
        have hm4 := HM3.out.below hb
        have HM4 := Lib.hid hm4
        clear hb hm4
        refine Lib.hid ?_
        go_wp2_with fail
        go_loopw [66] (fun iv wr => ∃ (p : Nat), p ≤ m ∧ iv = .int .i64 (p : Int) ∧ Below w4.heap.size w4 wr) (fun iv _ => m - (intOf iv).toNat)
        case atStart => exact ⟨0, Nat.zero_le _, rfl, Below.refl _ _⟩
        case round =>
          obtain ⟨wr2, rfl⟩ : ∃ W1 : World, W1 = wr := ⟨_, rfl⟩
          obtain ⟨p, hp, rfl, hb5⟩ := hrel
          by_cases hlt : p < m
          · have j1 : (p : Int) < (m : Int) := by omega
            have HLT := Lib.hid hlt; have HB5 := Lib.hid hb5
            have hgb5 := HGB.out.below (Below.chain HB4.out hb5)
            have hm5 := HM4.out.below hb5
            have HGB5 := Lib.hid hgb5; have HM5 := Lib.hid hm5
            clear hlt hb5 hgb5 hm5
            go_wp2_with fail
            refine ln_region M w.heap.size m p E.length vc vo _ _ _ _ _ _ _ _ _ _ _ _ _ _ _ _ _ _ _ _ _ _ _ _ _ _ _ _ _ _ _ _ _ _ _ _ _ _ _ _ _ _ _ _ _ _ _ _ _ _ _ _ _ _ _ _ _ _ _ _ _ _ _ _ _ _ _ _ _ _ _ _ _ _ _ _ _ _ _ _ _ _ _ HLT.out (by omega) (by omega) HM5.out.lt HGB5.out.lt (HM5.out.mc p HLT.out) HGB5.out.c2 ?_
            intro u69 u70 u71 u72 u73 u74 u75 u76 u77 u78 w5 b6 h0 h1 h2 h3 h4 h5 h6 h7 h8 h9
            clear h0 h1 h2 h3 h4 h5 h6 h7 h8
            have hpe : unionB (fun _ => false) tt p = decide (p ≤ E.length) := by
              rw [Bool.eq_iff_iff, unionB_iff, decide_eq_true_iff]
              have hx := HPTH.out p HN1.out HLT.out
              rw [HPL.out HN1.out]
              constructor
              · rintro (q | q)
                · cases q
                · obtain ⟨y, hy, g⟩ := (HV.out.mem p).1 q
                  rw [List.mem_singleton] at hy
                  subst hy
                  have := hx.1 g; omega
              · intro q
                exact .inr ((HV.out.mem p).2 ⟨_, List.mem_singleton.2 rfl, hx.2 (by omega)⟩)
            rw [hpe, show (decide (p ≤ E.length) != decide (p ≤ E.length)) = false by simp] at h9
            subst h9
            have HB6 := Lib.hid (Below.chain HB5.out b6)
            clear hpe b6
            unfold lnAct
            go_wp2_with fail
            go_roundw
            case rel => exact ⟨p + 1, HLT.out, by go_num, HB6.out⟩
            case measure => have := HLT.out; simp [intOf]; omega
          · have hpm : p = m := by omega
            subst hpm
            have HB5 := Lib.hid (Below.chain HB4.out hb5)
            clear hb5
            go_wp2_with fail
            refine bodyPost_ret (by first | (simp [results, Try.results4, go_sem]; done) | (simp [results, Try.results4, go_sem]; rfl)) rfl ?_
            exact ⟨rfl, HBL.out.trans (HB5.out.mono HBL.out.size)⟩
end Go.Proofs.Ytjjkabgbcflipaa
