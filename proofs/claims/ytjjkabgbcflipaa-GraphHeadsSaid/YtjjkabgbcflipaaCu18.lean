import Derived.Test.YtjjkabgbcflipaaCu17
set_option linter.unusedSimpArgs false
set_option linter.unusedVariables false
namespace Go.Proofs.Ytjjkabgbcflipaa
open Go Go.Proofs Go.RowKit GM

theorem nx_mem {P p q : Nat} (fr to : Ed → Int) (E : List Ed) (hp : p < P) : q ∈ nxt (esN to E) (lsN P fr E) p ↔ ∃ j, j < E.length ∧ fr (edD E j) = (p : Int) ∧ (to (edD E j)).toNat = q := by
  unfold nxt
  rw [lsN_at fr E hp, List.mem_map]
  have e : ∀ j, j < E.length → atD (esN to E) j = (to (edD E j)).toNat := fun j hj => by
    unfold atD esN
    rw [List.getD_eq_getElem?_getD, List.getElem?_map, List.getElem?_eq_getElem hj, edD_eq hj]; rfl
  constructor
  · rintro ⟨j, hj, rfl⟩
    have h := List.mem_filter.1 hj
    have h1 : j < E.length := by simpa using h.1
    exact ⟨j, h1, by simpa using h.2, (e j h1).symm⟩
  · rintro ⟨j, hj, h1, rfl⟩
    exact ⟨j, List.mem_filter.2 ⟨by simpa using hj, by simpa using h1⟩, e j hj⟩
/-- How many marks are false, as the memory has them. -/
def cntW (W : World) (M P : Nat) : Nat := ((List.range P).filter fun x => match W.cell? ⟨M, x, none⟩ with | some (.bool false) => true | _ => false).length
theorem MkAt.cnt {W : World} {M P : Nat} {mk : Nat → Bool} (h : MkAt W M P mk) : cntW W M P = cntF mk P := by
  unfold cntW cntF
  congr 1
  apply List.filter_congr
  intro x hx
  rw [h.mc x (by simpa using hx)]
  cases mk x <;> rfl
/-- All that is marked is reached. -/
def RcS (nx : Nat → List Nat) (wo : Int) (r P : Nat) (mk : Nat → Bool) : Prop := mk r = true ∧ ∀ q, q < P → mk q = true → Rch nx (fun y => (y : Int) = wo) r q
/-- The first j edges lead from no mark to a point that could be marked. -/
def RcC (wo : Int) (E : List Ed) (mk : Nat → Bool) (j : Nat) : Prop := ∀ i, i < j → mk (edD E i).f.toNat = true → mk (edD E i).t.toNat = true ∨ (edD E i).t = wo
theorem RcS.all {P r : Nat} {wo : Int} {E : List Ed} {mk : Nat → Bool} (h : RcS (nxF P E) wo r P mk) (hc : RcC wo E mk E.length) (hr : r < P) (hp : ∀ j, j < E.length → isPt P (edD E j).f = true ∧ isPt P (edD E j).t = true) :
    ∀ q, q < P → (mk q = true ↔ Rch (nxF P E) (fun y => (y : Int) = wo) r q) := by
  intro q hq
  refine ⟨h.2 q hq, fun g => ?_⟩
  have : ∀ a b, Rch (nxF P E) (fun y => (y : Int) = wo) a b → a = r → mk b = true ∧ b < P := by
    intro a b g
    induction g with
    | refl _ => rintro rfl; exact ⟨h.1, hr⟩
    | @step b c g1 g2 g3 ih =>
      intro e
      obtain ⟨i1, i2⟩ := ih e
      obtain ⟨j, hj, e1, e2⟩ := (nx_mem (fun d => d.f) (fun d => d.t) E i2).1 g2
      have hpt := isPt_true (hp j hj).2
      have e3 : (edD E j).f.toNat = b := by omega
      rcases hc j hj (by rw [e3]; exact i1) with k | k
      · exact ⟨by rw [← e2]; exact k, by rw [← e2]; omega⟩
      · exact absurd (show (c : Int) = wo by rw [← k, ← e2]; omega) g3
  exact (this r q g rfl).1
theorem RcS.step {P r : Nat} {wo : Int} {E : List Ed} {mk : Nat → Bool} {j : Nat} (h : RcS (nxF P E) wo r P mk) (hj : j < E.length) (hp : isPt P (edD E j).f = true ∧ isPt P (edD E j).t = true)
    (hf : mk (edD E j).f.toNat = true) (hw : (edD E j).t ≠ wo) : RcS (nxF P E) wo r P (setB mk (edD E j).t.toNat) := by
  have p1 := isPt_true hp.1; have p2 := isPt_true hp.2
  refine ⟨(setB_iff _ _ _).2 (.inl h.1), fun q hq hm => ?_⟩
  rcases (setB_iff _ _ _).1 hm with k | k
  · exact h.2 q hq k
  · subst k
    refine .step (h.2 _ (by omega) hf) ((nx_mem (fun d => d.f) (fun d => d.t) E (by omega)).2 ⟨j, hj, by omega, rfl⟩) (fun e => hw ?_)
    rw [← e]; omega
def ReachedQ (P : Nat) (E : List Ed) (r : Nat) (wo : Int) (w : World) : Ending → World → Prop := fun e w' => ∃ mk, e = .returned (.slice (some ⟨w.heap.size + 1, 0, none⟩) P P) ∧ MkAt w' (w.heap.size + 1) P mk ∧
  (∀ q, q < P → (mk q = true ↔ Rch (nxF P E) (fun y => (y : Int) = wo) r q)) ∧ Below w.heap.size w w'
set_option maxRecDepth 20000 in
set_option maxHeartbeats 1000000 in
theorem reached_any {A : Nat → Prop} (P : Nat) (x : Int) (ao : Option Addr) (c : Nat) (E : List Ed) (w : World) (hr : ERow A w ao c E) (h0 : ckG P x E = 0) (r : Nat) (hrP : r < P) (wo : Int) :
    Calls Try.prog 53 #[.agg #[.int .i64 (P : Int), .int .i64 x, .slice ao E.length c], .int .i64 (r : Int), .int .i64 wo] w (ReachedQ P E r wo w) := by
  obtain ⟨hn1, hn2, hlen, hpts⟩ := ckG_ok h0
  have hat : ∀ j, j < E.length → ∃ b o, ao = some ⟨b, o, none⟩ ∧ b < w.heap.size ∧ EdAt w b (o + j * 21) (edD E j) ∧ (edD E j).ok := fun j hj => by
    obtain ⟨b, o, e, -, h1, h2⟩ := hr.get j hj
    exact ⟨b, o, e, h1, h2⟩
  have hX := GBx.new w P x ao E.length c
  have hmk := make_bools (w.alloc (Obj.cells #[.int .i64 (P : Int), .int .i64 x, .slice ao E.length c] 24)) P (by omega)
  have hm := MkAt.made (w.alloc (Obj.cells #[.int .i64 (P : Int), .int .i64 x, .slice ao E.length c] 24)) P
  have hz : (w.alloc (Obj.cells #[.int .i64 (P : Int), .int .i64 x, .slice ao E.length c] 24)).heap.size = w.heap.size + 1 := by simp
  rw [hz] at hmk hm
  have hbl : Below w.heap.size w ((w.alloc (Obj.cells #[.int .i64 (P : Int), .int .i64 x, .slice ao E.length c] 24)).alloc (.cells (Array.replicate P (.bool false)) 4)) := ((Below.refl _ _).alloc (Nat.le_refl _) _).alloc (by simp) _
  have hX2 := hX.below ((Below.refl (w.alloc (Obj.cells #[.int .i64 (P : Int), .int .i64 x, .slice ao E.length c] 24)).heap.size (w.alloc (Obj.cells #[.int .i64 (P : Int), .int .i64 x, .slice ao E.length c] 24))).alloc (Nat.le_refl _) (.cells (Array.replicate P (.bool false)) 4))
  have HAT := Lib.hid hat; have HPT := Lib.hid hpts; have HL := Lib.hid hlen; have HX := Lib.hid hX2; have HM := Lib.hid hm; have HBL := Lib.hid hbl
  have HZ : Hid (w.heap.size + 1 + 1 ≤ ((w.alloc (Obj.cells #[.int .i64 (P : Int), .int .i64 x, .slice ao E.length c] 24)).alloc (.cells (Array.replicate P (.bool false)) 4)).heap.size) := Lib.hid (by simp)
  obtain ⟨y0, y1, y2, y3⟩ := hX
  have m0 : (0 : Int) ≤ (P : Int) := by omega
  have p0 : (0 : Int) ≤ (r : Int) := by omega
  have p1 : (r : Int) < (P : Int) := by omega
  have k0 := hm.mc r hrP; have k1 := hm.mf r
  clear hr h0 hat hlen hpts hX2 hm hbl
  by_cases hw : (r : Int) = wo
  · subst hw
    have hno : ∀ q, q < P → ((fun _ => false : Nat → Bool) q = true ↔ Rch (nxF P E) (fun y => (y : Int) = (r : Int)) r q) := fun q _ => ⟨fun h => (by cases h), fun h => absurd rfl h.left⟩
    have HNO := Lib.hid hno; clear hno
    have t1 : ((r : Int) == (r : Int)) = true := by simp
    go_enter Try.func53, Try.ntmps53
    go_wp2
    go_ret
    exact ⟨_, rfl, HM.out, HNO.out, HBL.out⟩
  · have t1 : ((r : Int) == wo) = false := by rw [beq_eq_false_iff_ne]; exact hw
    have HW := Lib.hid hw; clear hw
    go_enter Try.func53, Try.ntmps53
    go_wp2_with fail
    clear hmk y0 y1 y2 y3 k0 k1
    have hEq : ((w.alloc (Obj.cells #[.int .i64 (P : Int), .int .i64 x, .slice ao E.length c] 24)).alloc (.cells (Array.replicate P (.bool false)) 4)).setCell ⟨w.heap.size + 1, r, none⟩ (.bool true) = (w.alloc (Obj.cells #[.int .i64 (P : Int), .int .i64 x, .slice ao E.length c] 24)).alloc (.cells ((Array.replicate P (.bool false)).setIfInBounds r (.bool true)) 4) := by simp [go_sem]
    have hM1 : MkAt (((w.alloc (Obj.cells #[.int .i64 (P : Int), .int .i64 x, .slice ao E.length c] 24)).alloc (.cells (Array.replicate P (.bool false)) 4)).setCell ⟨w.heap.size + 1, r, none⟩ (.bool true)) (w.heap.size + 1) P (setB (fun _ => false) r) := HM.out.set hrP
    have hB1 : But (fun b => b = w.heap.size + 1) ((w.alloc (Obj.cells #[.int .i64 (P : Int), .int .i64 x, .slice ao E.length c] 24)).alloc (.cells (Array.replicate P (.bool false)) 4)) (((w.alloc (Obj.cells #[.int .i64 (P : Int), .int .i64 x, .slice ao E.length c] 24)).alloc (.cells (Array.replicate P (.bool false)) 4)).setCell ⟨w.heap.size + 1, r, none⟩ (.bool true)) := (But.refl _ _).set _ _ (fun _ => rfl)
    have hS1 : RcS (nxF P E) wo r P (setB (fun _ => false) r) := ⟨by simp [setB], fun q _ h => by
      have e : q = r := by simpa [setB] using h
      subst e; exact .refl HW.out⟩
    rw [hEq] at hM1 hB1
    clear hEq
    have HM1 := Lib.hid hM1; have HB1 := Lib.hid hB1; have HS1 := Lib.hid hS1
    clear hM1 hB1 hS1
    generalize (w.alloc (Obj.cells #[.int .i64 (P : Int), .int .i64 x, .slice ao E.length c] 24)).alloc (.cells ((Array.replicate P (.bool false)).setIfInBounds r (.bool true)) 4) = W at *
    generalize ((w.alloc (Obj.cells #[.int .i64 (P : Int), .int .i64 x, .slice ao E.length c] 24)).alloc (.cells (Array.replicate P (.bool false)) 4)) = W0 at *
    go_loopw [8] (fun mv wr => ∃ (mk : Nat → Bool) (more : Bool), mv = .bool more ∧ RcS (nxF P E) wo r P mk ∧ (more = false → RcC wo E mk E.length) ∧ MkAt wr (w.heap.size + 1) P mk ∧ But (fun b => b = w.heap.size + 1) W0 wr)
      (fun mv wr => 2 * cntW wr (w.heap.size + 1) P + (match mv with | .bool true => 1 | _ => 0))
    case atStart => exact ⟨_, true, rfl, HS1.out, fun e => (by cases e), HM1.out, HB1.out⟩
    case round =>
      obtain ⟨mk0, more0, rfl, hS, hC, hM, hB⟩ := hrel
      have HS0 := Lib.hid hS; have HC0 := Lib.hid hC; have HM0 := Lib.hid hM; have HB0 := Lib.hid hB
      have HCN := Lib.hid hM.cnt
      clear hS hC hM hB
      cases more0 with
      | false =>
        have hall := HS0.out.all (HC0.out rfl) hrP HPT.out
        have HALL := Lib.hid hall; clear hall
        have hbf : Below w.heap.size w wr := HBL.out.trans ⟨HB0.out.os, HB0.out.tape, HB0.out.output, HB0.out.size, fun k hk => HB0.out.block k (by have := HBL.out.size; omega) (by omega)⟩
        have HBF := Lib.hid hbf; clear hbf
        go_wp2
        go_ret
        exact ⟨mk0, rfl, HM0.out, HALL.out, HBF.out⟩
      | true =>
        obtain ⟨z0, z1, z2, z3⟩ := HX.out.but HB0.out (by omega)
        go_wp2_with fail
        clear z0 z1 z2 z3
        go_loopw [8, 9] (fun mv iv wr2 => ∃ (j : Nat) (mk : Nat → Bool) (more : Bool), j ≤ E.length ∧ mv = .bool more ∧ iv = .int .i64 (j : Int) ∧ RcS (nxF P E) wo r P mk ∧ (more = false → RcC wo E mk j) ∧ MkAt wr2 (w.heap.size + 1) P mk ∧ But (fun b => b = w.heap.size + 1) W0 wr2 ∧
          (cntF mk P ≤ cntF mk0 P ∧ (more = true → cntF mk P + 1 ≤ cntF mk0 P))) (fun _ iv _ => E.length - (intOf iv).toNat)
        case atStart => exact ⟨0, mk0, false, Nat.zero_le _, rfl, rfl, HS0.out, fun _ i hi => absurd hi (by omega), HM0.out, HB0.out, Nat.le_refl _, fun e => (by cases e)⟩
        case round =>
          obtain ⟨j, mk, more, hj, rfl, rfl, hS, hC, hM, hB, hcn⟩ := hrel
          have HS := Lib.hid hS; have HC := Lib.hid hC; have HM2 := Lib.hid hM; have HB2 := Lib.hid hB; have HC2 := Lib.hid hcn
          clear hS hC hM hB hcn
          obtain ⟨z0, z1, z2, z3⟩ := HX.out.but HB2.out (by omega)
          by_cases hlt : j < E.length
          · have HLT := Lib.hid hlt
            obtain ⟨b, o, rfl, hbl, he, hok⟩ := HAT.out j hlt
            have hzW : w.heap.size + 1 + 1 ≤ W0.heap.size := HZ.out
            have he2 : EdAt wr b (o + j * 21) (edD E j) := (he.below' HBL.out hbl).but HB2.out (by omega) (by omega)
            obtain ⟨hp1, hp2⟩ := HPT.out j hlt
            have j1 : (j : Int) < (E.length : Int) := by omega
            have j0 : (0 : Int) ≤ (j : Int) := by omega
            have hstep := fun h1 h2 => HS.out.step hlt ⟨hp1, hp2⟩ h1 h2
            have hclo : ∀ mk', (∀ q, mk q = true → mk' q = true) → (mk' (edD E j).f.toNat = true → mk' (edD E j).t.toNat = true ∨ (edD E j).t = wo) → more = false → (∀ q, mk' q = true → mk q = true) → RcC wo E mk' (j + 1) := fun mk' hu hc hm hd i hi hf => by
              rcases Nat.lt_succ_iff_lt_or_eq.1 hi with k | k
              · rcases HC.out hm i k (hd _ hf) with q | q
                · exact .inl (hu _ q)
                · exact .inr q
              · subst k; exact hc hf
            have HSTEP := Lib.hid hstep; have HCLO := Lib.hid hclo
            have q1 := isPt_true hp1; have q2 := isPt_true hp2
            clear hstep hclo hp1 hp2 he hok
            generalize edD E j = d at *
            have HE := Lib.hid he2; clear he2
            have q5 := ed_box0 wr d; have q6 := ed_box1 wr d
            obtain ⟨f, hf⟩ : ∃ f, f = d.f.toNat := ⟨_, rfl⟩
            obtain ⟨s, hs⟩ : ∃ s, s = d.t.toNat := ⟨_, rfl⟩
            have hff : d.f = (f : Int) := by omega
            have hss : d.t = (s : Int) := by omega
            have hfP : f < P := by omega
            have hsP : s < P := by omega
            rw [← hf, ← hs, hss] at HCLO
            rw [← hf, ← hs, hss] at HSTEP
            rw [hff] at q5
            rw [hss] at q6
            have p2 : (0 : Int) ≤ (f : Int) := by omega
            have p3 : (f : Int) < (P : Int) := by omega
            have p4 : (0 : Int) ≤ (s : Int) := by omega
            have p5 : (s : Int) < (P : Int) := by omega
            have HMB := Lib.hid (HM2.out.below ((Below.refl wr.heap.size wr).alloc (Nat.le_refl _) (.cells d.cs 55)))
            have HBB := Lib.hid (HB2.out.trans (But.of_below (S := fun b => b = w.heap.size + 1) ((Below.refl wr.heap.size wr).alloc (Nat.le_refl _) (.cells d.cs 55))) (fun _ _ e => e))
            have v0 := HMB.out.mc f hfP; have v1 := HMB.out.mc s hsP; have v2 := HMB.out.mf s
            have hL2 : E.length ≤ 1024 := HL.out
            have SP := Lib.hid hsP
            clear hf hs hff hss hfP hsP q1 q2 hzW hbl
            cases hmf : mk f with
            | false =>
              have hcc : more = false → RcC wo E mk (j + 1) := fun hm => HCLO.out mk (fun _ h => h) (fun h => by rw [hmf] at h; cases h) hm (fun _ h => h)
              have HCC := Lib.hid hcc; clear hcc
              rw [hmf] at v0
              clear hmf
              go_wp2_with (first | (refine wpList_load_ed (.tmp 32) rfl rfl b (o + j * 21) (by simp [Act.eval, Act.put]) d HE.out ?_) | (refine wpList_store_ed (.tmp 10) (.tmp 33) rfl rfl rfl (by simp [Act.eval, Act.put]) d (by simp [Act.eval, Act.put]) ?_))
              go_wp2
              go_roundw
              case rel => exact ⟨j + 1, mk, more, HLT.out, rfl, by go_num, HS.out, HCC.out, HMB.out, HBB.out, HC2.out⟩
              case measure => simp [intOf]; omega
            | true =>
              rw [hmf] at v0
              cases hms : mk s with
              | true =>
                have hcc : more = false → RcC wo E mk (j + 1) := fun hm => HCLO.out mk (fun _ h => h) (fun _ => .inl hms) hm (fun _ h => h)
                have HCC := Lib.hid hcc; clear hcc
                rw [hms] at v1
                clear hmf hms
                go_wp2_with (first | (refine wpList_load_ed (.tmp 32) rfl rfl b (o + j * 21) (by simp [Act.eval, Act.put]) d HE.out ?_) | (refine wpList_store_ed (.tmp 10) (.tmp 33) rfl rfl rfl (by simp [Act.eval, Act.put]) d (by simp [Act.eval, Act.put]) ?_))
                go_wp2
                go_roundw
                case rel => exact ⟨j + 1, mk, more, HLT.out, rfl, by go_num, HS.out, HCC.out, HMB.out, HBB.out, HC2.out⟩
                case measure => simp [intOf]; omega
              | false =>
                rw [hms] at v1
                by_cases hsw : (s : Int) = wo
                · have hcc : more = false → RcC wo E mk (j + 1) := fun hm => HCLO.out mk (fun _ h => h) (fun _ => .inr hsw) hm (fun _ h => h)
                  have HCC := Lib.hid hcc; clear hcc
                  have t2 : ((s : Int) != wo) = false := by rw [bne_eq_false_iff_eq]; exact hsw
                  clear hmf hms hsw
                  go_wp2_with (first | (refine wpList_load_ed (.tmp 32) rfl rfl b (o + j * 21) (by simp [Act.eval, Act.put]) d HE.out ?_) | (refine wpList_store_ed (.tmp 10) (.tmp 33) rfl rfl rfl (by simp [Act.eval, Act.put]) d (by simp [Act.eval, Act.put]) ?_))
                  go_wp2
                  go_roundw
                  case rel => exact ⟨j + 1, mk, more, HLT.out, rfl, by go_num, HS.out, HCC.out, HMB.out, HBB.out, HC2.out⟩
                  case measure => simp [intOf]; omega
                · have HST := Lib.hid (HSTEP.out hmf hsw)
                  have HCT := Lib.hid (cntF_set SP.out hms)
                  have t2 : ((s : Int) != wo) = true := by rw [bne_iff_ne]; exact hsw
                  clear hmf hms hsw
                  go_wp2_with (first | (refine wpList_load_ed (.tmp 32) rfl rfl b (o + j * 21) (by simp [Act.eval, Act.put]) d HE.out ?_) | (refine wpList_store_ed (.tmp 10) (.tmp 33) rfl rfl rfl (by simp [Act.eval, Act.put]) d (by simp [Act.eval, Act.put]) ?_))
                  go_wp2
                  go_roundw
                  case rel =>
                    refine ⟨j + 1, setB mk s, true, HLT.out, rfl, by go_num, HST.out, fun e => (by cases e), HMB.out.set SP.out, HBB.out.trans (But.set (S := fun b => b = w.heap.size + 1) (But.refl _ _) ⟨w.heap.size + 1, s, none⟩ _ (fun _ => rfl)) (fun _ _ e => e), ?_⟩
                    have h1 := HCT.out; have h2 := HC2.out.1
                    exact ⟨by omega, fun _ => by omega⟩
                  case measure => simp [intOf]; omega
          · have hjn : j = E.length := by omega
            subst hjn
            go_wp2
            go_roundw
            case rel => exact ⟨mk, more, rfl, HS.out, HC.out, HM2.out, HB2.out⟩
            case measure =>
              rw [HM2.out.cnt, HCN.out]
              have h2 := HC2.out
              cases more with
              | true => have := h2.2 rfl; simp only; omega
              | false => have := h2.1; simp only; omega
end Go.Proofs.Ytjjkabgbcflipaa
namespace Go.Proofs.Ytjjkabgbcflipaa
open Go Go.Proofs Go.RowKit GM

def RReachQ (n x : Int) (E : List Ed) (from_ : Int) (w : World) : Ending → World → Prop := fun e w' => Below w.heap.size w w' ∧
  ((ckG n x E ≠ 0 ∧ e = .returned (.tuple #[nilS, .int .i64 (ckG n x E : Nat)])) ∨
   (ckG n x E = 0 ∧ isPt n from_ = false ∧ e = .returned (.tuple #[nilS, .int .i64 6])) ∨
   (ckG n x E = 0 ∧ isPt n from_ = true ∧ ∃ M mk, e = .returned (.tuple #[.slice (some ⟨M, 0, none⟩) n.toNat n.toNat, .int .i64 0]) ∧ w.heap.size ≤ M ∧ MkAt w' M n.toNat mk ∧ ∀ q, q < n.toNat → (mk q = true ↔ Rch (nxF n.toNat E) (fun y => (y : Int) = -1) from_.toNat q)))
set_option maxRecDepth 20000 in
set_option maxHeartbeats 4000000 in
theorem refReach_any {A : Nat → Prop} (n x : Int) (ao : Option Addr) (c : Nat) (E : List Ed) (w : World) (hr : ERow A w ao c E) (from_ : Int) :
    Calls Try.prog 20 #[.agg #[.int .i64 n, .int .i64 x, .slice ao E.length c], .int .i64 from_] w (RReachQ n x E from_ w) := by
  have hA : Below w.heap.size w (w.alloc (Obj.cells #[.int .i64 n, .int .i64 x, .slice ao E.length c] 24)) := (Below.refl _ _).alloc (Nat.le_refl _) _
  have hX := GBx.new w n x ao E.length c
  have CC := fun W hW => refCheck_any n x ao c E W (hr.keep (B := A) (But.of_below (S := fun _ => False) (w' := W) hW) (fun _ h _ => ⟨id, h⟩))
  have KA' := Lib.hid hA; have HX := Lib.hid hX; have KC := Lib.hid CC; have HR := Lib.hid hr
  clear hA hX CC hr
  by_cases h0 : ckG n x E = 0
  rotate_left
  · obtain ⟨K, hK⟩ : ∃ K, ckG n x E = K := ⟨_, rfl⟩
    have HK := Lib.hid hK
    rw [hK] at h0
    have t1 : ((K : Int) != 0) = true := by rw [bne_iff_ne]; omega
    have H0 := Lib.hid h0
    clear h0 hK
    have k1 := KC.out _ KA'.out
    rw [HK.out] at k1
    have K1 := Lib.hid k1; clear k1 KC
    go_enter Try.func20, Try.ntmps20
    go_wp2_with (go_at_call 22; refine (K1.out).mono ?_; rintro e w1 ⟨rfl, hb⟩; refine Hid.out ?_)
    have HB := Lib.hid (Below.chain KA'.out hb); clear hb
    refine Lib.hid ?_
    go_wp2
    refine bodyPost_ret (by first | (simp [results, Try.results20, go_sem]; done) | (simp [results, Try.results20, go_sem]; rfl)) rfl ?_
    exact ⟨HB.out, .inl ⟨by rw [HK.out]; exact H0.out, by rw [HK.out]⟩⟩
  · have k1 := KC.out _ KA'.out
    rw [h0] at k1
    have K1 := Lib.hid k1; clear k1
    obtain ⟨hn1, hn2, -⟩ := ckG_pos h0
    obtain ⟨P, rfl⟩ := Int.eq_ofNat_of_zero_le (show 0 ≤ n by omega)
    have H0 := Lib.hid h0
    clear KC
    cases hp : isPt (P : Int) from_ with
    | false =>
      have HP := Lib.hid hp
      have hcase : from_ < 0 ∨ (¬ from_ < 0 ∧ (P : Int) ≤ from_) := by
        unfold isPt at hp
        simp only [Bool.and_eq_false_iff, decide_eq_false_iff_not] at hp
        omega
      clear hp h0
      rcases hcase with t1 | ⟨t1, t2⟩
      all_goals
        go_enter Try.func20, Try.ntmps20
        go_wp2_with (go_at_call 22; refine (K1.out).mono ?_; rintro e w1 ⟨rfl, hb⟩; refine Hid.out ?_)
        have HB := Lib.hid (Below.chain KA'.out hb)
        obtain ⟨y0, y1, y2, y3⟩ := HX.out.below hb
        clear hb
        refine Lib.hid ?_
        go_wp2
        refine bodyPost_ret (by first | (simp [results, Try.results20, go_sem]; done) | (simp [results, Try.results20, go_sem]; rfl)) rfl ?_
        exact ⟨HB.out, .inr (.inl ⟨H0.out, HP.out, rfl⟩)⟩
    | true =>
      have HP := Lib.hid hp
      have hq := isPt_true hp
      obtain ⟨f, rfl⟩ := Int.eq_ofNat_of_zero_le (show 0 ≤ from_ by omega)
      have t1 : ¬ (f : Int) < 0 := by omega
      have t2 : ¬ (P : Int) ≤ (f : Int) := by omega
      have k2 := fun W hW => reached_any P x ao c E W (HR.out.keep (B := A) (But.of_below (S := fun _ => False) (w' := W) hW) (fun _ h _ => ⟨id, h⟩)) h0 f (by omega) (-1)
      have K2 := Lib.hid k2
      clear k2 hp h0 hq
      go_enter Try.func20, Try.ntmps20
      go_wp2_with (go_at_call 22; refine (K1.out).mono ?_; rintro e w1 ⟨rfl, hb⟩; refine Hid.out ?_)
      have HB := Lib.hid (Below.chain KA'.out hb)
      obtain ⟨y0, y1, y2, y3⟩ := HX.out.below hb
      clear hb
      refine Lib.hid ?_
      go_wp2_with (first | (go_at_call 53; refine (K2.out _ HB.out).mono ?_; rintro e w2 ⟨mk, rfl, hm, hall, hb⟩; refine Hid.out ?_) | fail)
      have HB2 := Lib.hid (Below.chain HB.out hb)
      have HM := Lib.hid hm; have HA := Lib.hid hall; have HZ := Lib.hid HB.out.size
      clear hb hm hall y0 y1 y2 y3
      refine Lib.hid ?_
      go_wp2
      refine bodyPost_ret (by first | (simp [results, Try.results20, go_sem]; done) | (simp [results, Try.results20, go_sem]; rfl)) rfl ?_
      exact ⟨HB2.out, .inr (.inr ⟨H0.out, HP.out, _, mk, rfl, by have := HZ.out; omega, HM.out, HA.out⟩)⟩
/-- How many marks are true. -/
def trueF (mk : Nat → Bool) (P : Nat) : Nat := ((List.range P).filter mk).length
theorem trueF_le (mk : Nat → Bool) (P : Nat) : trueF mk P ≤ P := by unfold trueF; exact Nat.le_trans (List.length_filter_le _ _) (by simp)
theorem trueF_succ (mk : Nat → Bool) (i : Nat) : trueF mk (i + 1) = trueF mk i + (if mk i = true then 1 else 0) := by
  unfold trueF; rw [List.range_succ, List.filter_append, List.length_append]
  by_cases h : mk i = true <;> simp [h]
set_option maxRecDepth 20000 in
set_option maxHeartbeats 400000 in
theorem count_any {M P : Nat} {mk : Nat → Bool} (w : World) (hm : MkAt w M P mk) (hP : P ≤ 100000) :
    Calls Try.prog 77 #[.slice (some ⟨M, 0, none⟩) P P] w fun e w' => e = .returned (.int .i64 (trueF mk P : Nat)) ∧ w' = w := by
  have HM := Lib.hid hm; clear hm
  go_enter Try.func77, Try.ntmps77
  go_wp2_with fail
  go_loopw [3, 4] (fun nv iv wr => ∃ i : Nat, i ≤ P ∧ nv = .int .i64 (trueF mk i : Nat) ∧ iv = .int .i64 (i : Int) ∧ wr = w) (fun _ iv _ => P - (intOf iv).toNat)
  case atStart => exact ⟨0, Nat.zero_le _, rfl, rfl, rfl⟩
  case round =>
    obtain ⟨i, hi, rfl, rfl, rfl⟩ := hrel
    by_cases hlt : i < P
    · have HLT := Lib.hid hlt
      have i0 : (0 : Int) ≤ (i : Int) := by omega
      have i1 : (i : Int) < (P : Int) := by omega
      have y0 := HM.out.mc i hlt
      have hsu := trueF_succ mk i
      have hle := trueF_le mk i
      have HSU := Lib.hid hsu; clear hsu
      generalize trueF mk i = tf at *
      cases hmi : mk i with
      | false =>
        rw [hmi] at y0
        have hs2 := HSU.out
        rw [hmi] at hs2
        have HS2 := Lib.hid hs2; clear hs2 hmi
        go_wp2
        go_roundw
        case rel => exact ⟨i + 1, HLT.out, by rw [HS2.out]; rfl, by go_num, trivial⟩
        case measure => simp [intOf]; omega
      | true =>
        rw [hmi] at y0
        have hs2 := HSU.out
        rw [hmi] at hs2
        have HS2 := Lib.hid hs2; clear hs2 hmi
        go_wp2
        go_roundw
        case rel => exact ⟨i + 1, HLT.out, by rw [HS2.out]; go_num, by go_num, trivial⟩
        case measure => simp [intOf]; omega
    · have hin : i = P := by omega
      subst hin
      go_wp2
      go_ret
      exact ⟨rfl, rfl⟩
end Go.Proofs.Ytjjkabgbcflipaa
