/-
  The law LexerStands.
-/
import Derived.Test.YtmogmneaomndeaaDoorLexK
import Derived.Test.YtmogmneaomndeaaDoorLexZ
import Derived.Test.YtmogmneaomndeaaDoorLScans
set_option linter.unusedSimpArgs false
set_option linter.unusedVariables false
namespace Go.Proofs.YtmogmneaomndeaaDoor
open Go Go.Proofs Go.RowKit

/-- What is known of the token at a place. -/
theorem st_at {s : ByteArray} {V : List (Int × List UInt8 × Nat)} {m e i : Nat} (hV : V.length = m + 1) (hi : i < m + 1) (h : St (bytes s) e (V.drop i)) (hs : s.size ≤ 600) :
    ∃ (A : Nat) (tt : ByteArray), tkD (V.map toTk) i = ⟨(tkD (V.map toTk) i).k, tt, (A : Int)⟩ ∧ e ≤ A ∧ A + tt.size ≤ s.size ∧ s.extract A (A + tt.size) = tt ∧ (∀ x ∈ lnB (s.extract e A), ∀ b ∈ upTo 35 (bytes x), b = 32 ∨ b = 9 ∨ b = 13) ∧
      ((tkD (V.map toTk) i).k == 3) = decide (i = m) ∧ decide (tt.size = 0) = decide (i = m) ∧ ((i + 1 < m + 1 ∧ St (bytes s) (A + tt.size) (V.drop (i + 1))) ∨ (i + 1 = m + 1 ∧ A + tt.size = s.size)) := by
  have hd : V.drop i = V[i]'(by omega) :: V.drop (i + 1) := List.drop_eq_getElem_cons (by omega)
  have ht : tkD (V.map toTk) i = toTk (V[i]'(by omega)) := by rw [tkD_eq (by rw [List.length_map]; omega), List.getElem_map]
  rw [hd] at h
  rw [ht]
  have hlast : V.drop (i + 1) = [] ↔ i = m := by rw [List.drop_eq_nil_iff]; omega
  generalize V[i]'(by omega) = v at *
  generalize hr : V.drop (i + 1) = r at *
  obtain ⟨k, t, A⟩ := v
  obtain ⟨h1, h2, h3, h4, h5⟩ := h
  dsimp only at h1 h2 h3 h4 h5
  have hsz : (str t).size = t.length := str_size t
  have hbl : (bytes s).length = s.size := rfl
  rw [hbl] at h2 h5
  refine ⟨A, str t, rfl, h1, by rw [hsz]; exact h2, ?_, ?_, ?_, ?_, ?_⟩
  · rw [hsz, extract_str s h2, h3]
  · intro x hx
    have hmem : bytes x ∈ (lnB (s.extract e A)).map bytes := List.mem_map.2 ⟨x, hx, rfl⟩
    have hee : bytes (s.extract e A) = ((bytes s).drop e).take (A - e) := by
      have := extract_mid s (a := e) (n := A - e) (by omega)
      rwa [show e + (A - e) = A by omega] at this
    rw [lnB_lns, hee] at hmem
    exact h4 _ hmem
  · show ((k == 3) : Bool) = _
    rcases h5 with ⟨p1, p2, -, -⟩ | ⟨p1, p2, -, -⟩
    · rw [decide_eq_true (hlast.1 p1), beq_iff_eq]; exact p2
    · rw [decide_eq_false (fun q => p1 (hlast.2 q)), beq_eq_false_iff_ne]; exact p2
  · rw [hsz]
    rcases h5 with ⟨p1, -, p3, -⟩ | ⟨p1, -, p3, -⟩
    · rw [decide_eq_true (hlast.1 p1), p3]; rfl
    · rw [decide_eq_false (fun q => p1 (hlast.2 q)), decide_eq_false (fun q => p3 (List.length_eq_zero_iff.1 q))]
  · rw [hsz]
    rcases h5 with ⟨p1, -, p3, p4⟩ | ⟨p1, -, p3, p4⟩
    · exact .inr ⟨by have := hlast.1 p1; omega, by rw [p3, p4]; rfl⟩
    · have : i ≠ m := fun q => p1 (hlast.2 q)
      exact .inl ⟨by omega, p4⟩

set_option maxRecDepth 20000 in
set_option maxHeartbeats 1000000 in
theorem lstands_walk (s : ByteArray) (hsz : s.size ≤ 9223372036854775807) (mx : Int) (w : World) (ht : Lib.TabBelow Tryd.prog w.heap.size w "surveyor/lexer.classes" .u8 clsTab) (hm : w.cell? ⟨0, 0, none⟩ = some (.int .i64 mx)) (hw : 0 < w.heap.size) :
    Calls Tryd.prog 7 #[.string s] w fun e w' => e = .returned (.bool true) ∧ Below w.heap.size w w' := by
  have CA : ∀ W, Below w.heap.size w W → Calls Tryd.prog 11 #[] W fun e w' => e = .returned (.bool true) ∧ Below W.heap.size W w' := fun W hW => awake_any mx W (Lib.tabBelow_of_tabIs (ht W hW)) (by rw [hW.cell (p := ⟨0, 0, none⟩) hw]; exact hm) (Nat.lt_of_lt_of_le hw hW.size)
  by_cases h1 : 600 < s.size
  · have g1 : decide ((600 : Int) < (s.size : Int)) = true := by rw [decide_eq_true_iff]; omega
    have H1 := Lib.hid h1; have KA := Lib.hid CA; clear h1 CA ht hm hw hsz
    go_enter Tryd.func7, Tryd.ntmps7
    go_wp2_with (go_at_call 11; refine (KA.out _ (Below.refl _ _)).mono ?_; rintro e w3 ⟨rfl, hb3⟩; refine Hid.out ?_)
    have HB3 := Lib.hid hb3; clear hb3
    refine Lib.hid ?_
    go_wp2
    go_ret
    exact ⟨rfl, HB3.out⟩
  have g1 : decide ((600 : Int) < (s.size : Int)) = false := by rw [decide_eq_false_iff_not]; omega
  have hle : s.size ≤ 600 := by omega
  have CS : ∀ W, Below w.heap.size w W → Calls Tryd.prog 12 #[.string s] W fun e w' => ∃ ao c, e = .returned (.tuple #[.slice ao (scR s).1.length c, .int .i64 ((scR s).2.1 : Nat), .int .i64 ((scR s).2.2 : Nat)]) ∧ TRow w' ao c (scR s).1 ∧ Below W.heap.size W w' := fun W hW => by
    refine (scan_any s W (Lib.tabBelow_of_tabIs (ht W hW))).mono ?_
    rintro e w' ⟨v, rfl, ho, hb⟩
    obtain ⟨ao, c, rfl, hr⟩ := TRow.of_owns ho
    exact ⟨ao, c, rfl, hr, hb⟩
  by_cases he : (scR s).2.2 ≠ 0
  · obtain ⟨-, hR, hlt⟩ := scR_bad (by omega) he
    have hl0 : (scR s).1.length = 0 := by rw [hR]; rfl
    rw [hl0] at CS
    generalize (scR s).2.1 = at1 at *
    generalize (scR s).2.2 = er at *
    have te : ((er : Int) != 0) = true := by rw [bne_iff_ne]; omega
    have te2 : ((er : Int) == 0) = false := by rw [beq_eq_false_iff_ne]; omega
    have g2 : decide ((0 : Int) ≤ (at1 : Int)) = true := by rw [decide_eq_true_iff]; omega
    have g3 : decide ((at1 : Int) ≤ (s.size : Int)) = true := by rw [decide_eq_true_iff]; omega
    have g4 : decide (at1 ≤ s.size) = true := by rw [decide_eq_true_iff]; omega
    have H1 := Lib.hid h1; have KA := Lib.hid CA; have KS := Lib.hid CS; have HE := Lib.hid he; clear h1 CA CS ht hm hw hsz hle he hR hlt hl0
    go_enter Tryd.func7, Tryd.ntmps7
    go_wp2_with (go_at_call 12; refine (KS.out _ (Below.refl _ _)).mono ?_; rintro e w3 ⟨a3, c3, rfl, hr3, hb3⟩; refine Hid.out ?_)
    have HB3 := Lib.hid hb3; clear hb3 hr3
    refine Lib.hid ?_
    go_wp2_with (go_at_call 11; refine (KA.out _ HB3.out).mono ?_; rintro e w4 ⟨rfl, hb4⟩; refine Hid.out ?_)
    have HB4 := Lib.hid (Below.chain HB3.out hb4); clear hb4
    refine Lib.hid ?_
    go_wp2
    go_ret
    exact ⟨rfl, HB4.out⟩
  replace he : (scR s).2.2 = 0 := by omega
  obtain ⟨hst, hVe⟩ := st_all (by omega) he
  have hll := scR_len (s := s)
  generalize (sqR (bytes s)).1 = V at *
  rw [he, hVe] at CS
  rw [hVe] at hll
  have hVl : (V.map toTk).length = V.length := List.length_map _
  rw [hVl] at CS hll
  have hVn : V ≠ [] := fun e => by rw [e] at hst; exact hst
  obtain ⟨m, hm1⟩ : ∃ m, V.length = m + 1 := ⟨V.length - 1, by have := List.length_pos_iff.2 hVn; omega⟩
  generalize (scR s).2.1 = at1 at *
  rw [hm1] at CS hll hVl
  have hst0 : St (bytes s) 0 (V.drop 0) := hst
  have hmc : ∀ W, Below w.heap.size w W → W.cell? ⟨0, 0, none⟩ = some (.int .i64 mx) := fun W hW => by rw [hW.cell (p := ⟨0, 0, none⟩) hw]; exact hm
  have z1 : decide ((0 : Int) < (m : Int) + 1) = true := by rw [decide_eq_true_iff]; omega
  have u3 : (m : Int) + 1 - 1 = (m : Int) := by omega
  have q3 : wrap64 ((m : Int) + 1 - 1) = (m : Int) := by rw [u3]; exact (wrap_int _ (by omega) (by omega)).2
  have q3k : IntKind.i64.wrap ((m : Int) + 1 - 1) = (m : Int) := by rw [u3]; exact (wrap_int _ (Int.natCast_nonneg m) (by clear q3; omega)).1
  have q2 : wrap64 (m : Int) = (m : Int) := by rw [u3] at q3; exact q3
  have q2k : IntKind.i64.wrap (m : Int) = (m : Int) := by rw [u3] at q3k; exact q3k
  have HW := Lib.hid (And.intro q3 (And.intro q3k (And.intro q2 q2k)))
  have KA := Lib.hid CA; have KS := Lib.hid CS; have HST0 := Lib.hid hst0; have HM1 := Lib.hid hm1; have HLE := Lib.hid hle; have HMC := Lib.hid hmc; have H1 := Lib.hid h1; have HVL := Lib.hid hVl; have HLL := Lib.hid hll
  clear q3 q3k q2 q2k u3 CA CS hst0 hm1 hle hmc h1 hVl hll hst hVe hVn he ht hm hw hsz
  go_enter Tryd.func7, Tryd.ntmps7
  go_wp2_with (go_at_call 12; refine (KS.out _ (Below.refl _ _)).mono ?_; rintro e w3 ⟨a3, c3, rfl, hr3, hb3⟩; refine Hid.out ?_)
  have hneL : (V.map toTk) ≠ [] := fun e => by have := HVL.out; rw [e] at this; simp at this
  obtain ⟨b3, o3, ha3, hat3⟩ := hr3.at hneL
  subst ha3
  have HB3 := Lib.hid hb3; have HAT := Lib.hid hat3
  clear hb3 hr3 hneL hat3
  refine Lib.hid ?_
  go_wp2_with fail
  go_loopw [6, 44] (fun ev iv wr => ∃ (i e : Nat), i ≤ m + 1 ∧ iv = .int .i64 (i : Int) ∧ ev = .int .i64 (e : Int) ∧ ((i < m + 1 ∧ St (bytes s) e (V.drop i)) ∨ (i = m + 1 ∧ e = s.size)) ∧ Below w3.heap.size w3 wr) (fun _ iv _ => m + 1 - (intOf iv).toNat)
  case atStart => exact ⟨0, 0, Nat.zero_le _, rfl, rfl, .inl ⟨Nat.succ_pos _, HST0.out⟩, Below.refl _ _⟩
  case round =>
    obtain ⟨i, e, hi, rfl, rfl, hcase, hB⟩ := hrel
    rcases hcase with ⟨hlt, hst⟩ | ⟨rfl, rfl⟩
    · obtain ⟨A, tt, hT, hea, hA, htx, hgap, hk3, hte, hnext⟩ := st_at HM1.out hlt hst HLE.out
      obtain ⟨d0, d1, d2⟩ := HAT.out i (by rw [HVL.out]; exact hlt) wr hB
      rw [hT] at d0 d1 d2
      dsimp only at d0 d1 d2
      generalize (tkD (V.map toTk) i).k = k at *
      have hle := HLE.out
      have hll := HLL.out
      have u1 : (0 : Int) ≤ (A : Int) + (tt.size : Int) ∧ (A : Int) + (tt.size : Int) < 9223372036854775808 := by omega
      have u2 : (0 : Int) ≤ (i : Int) + 1 ∧ (i : Int) + 1 < 9223372036854775808 := by omega
      have g0 : (0 : Int) ≤ (i : Int) := by omega
      have g2 : (i : Int) < (m : Int) + 1 := by omega
      have g3 : decide ((A : Int) < (e : Int)) = false := by rw [decide_eq_false_iff_not]; omega
      have g4 : decide (A < e) = false := by rw [decide_eq_false_iff_not]; omega
      have g5 : decide ((s.size : Int) < (A : Int) + (tt.size : Int)) = false := by rw [decide_eq_false_iff_not]; omega
      have hb2 : ((i : Int) == (m : Int)) = decide (i = m) := by rw [Bool.eq_iff_iff, beq_iff_eq, decide_eq_true_iff]; omega
      have hempty : tt.toList.isEmpty = decide (tt.size = 0) := by
        rw [Bool.eq_iff_iff, List.isEmpty_iff, decide_eq_true_iff, Lib.toList_data]
        exact ⟨fun e => by have : (bytes tt).length = 0 := by rw [show bytes tt = [] from e]; rfl
                           exact this, fun e => List.length_eq_zero_iff.1 e⟩
      rw [hte] at hempty
      have hempty2 : (tt.toList == []) = decide (i = m) := by
        rw [← hempty]; cases tt.toList <;> rfl
      have hrunT : ∀ W : World, (Instr.slice 9 (.string s) (some (.int .i64 (A : Int))) (some (.int .i64 ((A : Int) + (tt.size : Int)))) none).run Tryd.prog W = .ok (.string tt) W := fun W => by
        have := run_str_lh (P := Tryd.prog) W 9 s Tryd.underlying9 A (A + tt.size) (by omega) hA
        rwa [htx, Int.natCast_add] at this
      have hrunG : ∀ W : World, (Instr.slice 9 (.string s) (some (.int .i64 (e : Int))) (some (.int .i64 (A : Int))) none).run Tryd.prog W = .ok (.string (s.extract e A)) W := fun W => run_str_lh W 9 s Tryd.underlying9 e A hea (by omega)
      have hgs : (s.extract e A).size ≤ 600 := by rw [ext_sz]; omega
      have eA := (wrap_int _ u1.1 u1.2).2
      have eAk := (wrap_int _ u1.1 u1.2).1
      have ei := (wrap_int _ u2.1 u2.2).2
      generalize hkb : decide (i = m) = kb at *
      have HJ := Lib.hid (And.intro hlt hi); have HNX := Lib.hid hnext; have HB := Lib.hid hB; have HGAP := Lib.hid hgap; have HGS := Lib.hid hgs; have HKB := Lib.hid hkb; have HHA := Lib.hid hA
      clear hlt hi hst hT hea hA htx hte hnext hB hgap hgs hle hll u1 u2 hkb
      obtain ⟨q3, q3k, q2, q2k⟩ := HW.out
      go_wp2_with fail
      have hBA : Below w3.heap.size w3 (wr.alloc (Obj.cells #[.int .i64 k, .string tt, .int .i64 (A : Int)] 49)) := HB.out.alloc HB.out.size _
      have x0 : (wr.alloc (Obj.cells #[.int .i64 k, .string tt, .int .i64 (A : Int)] 49)).cell? ⟨wr.heap.size, 0, none⟩ = some (.int .i64 k) := World.cell?_alloc_new _ _ _ _
      have x1 : (wr.alloc (Obj.cells #[.int .i64 k, .string tt, .int .i64 (A : Int)] 49)).cell? ⟨wr.heap.size, 1, none⟩ = some (.string tt) := World.cell?_alloc_new _ _ _ _
      have x2 : (wr.alloc (Obj.cells #[.int .i64 k, .string tt, .int .i64 (A : Int)] 49)).cell? ⟨wr.heap.size, 2, none⟩ = some (.int .i64 (A : Int)) := World.cell?_alloc_new _ _ _ _
      have hlt1 : wr.heap.size < (wr.alloc (Obj.cells #[.int .i64 k, .string tt, .int .i64 (A : Int)] 49)).heap.size := by simp
      generalize wr.alloc (Obj.cells #[.int .i64 k, .string tt, .int .i64 (A : Int)] 49) = W1 at *
      generalize wr.heap.size = p at *
      have K : ∀ W, Below W1.heap.size W1 W → W.cell? ⟨p, 1, none⟩ = some (.string tt) ∧ W.cell? ⟨p, 2, none⟩ = some (.int .i64 (A : Int)) := fun W hW => ⟨(hW.cell (p := ⟨p, 1, none⟩) hlt1).trans x1, (hW.cell (p := ⟨p, 2, none⟩) hlt1).trans x2⟩
      have KK := Lib.hid K; have HBA := Lib.hid hBA
      clear K hBA hlt1 d0 d1 d2
      go_quiet (fail)
      clear x0 x1 x2 hempty hempty2 hb2 hk3 g3 g4 g5 hrunT eAk q3 q3k q2 q2k
      generalize hW2 : W1.drewN nq = W2 at *
      have hd2 : Below W1.heap.size W1 W2 := by rw [← hW2]; exact below_drewN (Below.refl _ _) _
      obtain ⟨x1, x2⟩ := KK.out _ hd2
      have HD2 := Lib.hid hd2
      clear hd2 hW2
      have hbw := Below.chain HB3.out (Below.chain HBA.out HD2.out)
      have CSp := Tryd.strings_Split (s.extract e A) ⟨#[10]⟩ mx W2 (by have := HGS.out; omega) (HMC.out _ hbw) (by decide)
      have hlen : (lnB (s.extract e A)).length = Lib.countB (s.extract e A) ⟨#[10]⟩ + 1 := Lib.splitB_all _ (by decide) 0 _ _ rfl
      have hsum := split_sum 10 (Lib.countB (s.extract e A) ⟨#[10]⟩) (s.extract e A)
      have hsm : ∀ x ∈ lnB (s.extract e A), x.size ≤ 600 := fun x hx => by
        have h1 := lens_mem (lnB (s.extract e A)) x hx
        have h2 : 0 < (lnB (s.extract e A)).length := by omega
        have h3 := HGS.out
        unfold lnB at h1 h2
        omega
      have hnl : (lnB (s.extract e A)).length ≤ 601 := by have h3 := HGS.out; unfold lnB; omega
      have hsp : Lib.splitB ⟨#[10]⟩ 0 (Lib.countB (s.extract e A) ⟨#[10]⟩) (s.extract e A) = lnB (s.extract e A) := rfl
      have hgp := HGAP.out
      rw [hsp, ← hlen] at CSp
      clear hsp hsum hlen
      generalize lnB (s.extract e A) = LL at *
      obtain ⟨n2, hn2⟩ : ∃ n2, LL.length = n2 := ⟨_, rfl⟩
      rw [hn2] at CSp hnl
      have KSp := Lib.hid CSp; have HSM := Lib.hid hsm; have HGP := Lib.hid hgp; have HN2 := Lib.hid hn2; have HNL2 := Lib.hid hnl; have HBW := Lib.hid hbw
      clear CSp hsm hgp hn2 hnl hbw
      go_wp2_with (go_at_call 29; refine KSp.out.mono ?_; rintro e4 w4 ⟨rfl, h4⟩; refine Hid.out ?_)
      subst h4
      have hLB : LB (W2.alloc (Obj.cells (LL.map Value.string).toArray 9)) W2.heap.size LL := heap_alloc_new W2 _
      have hB4 : Below W2.heap.size W2 (W2.alloc (Obj.cells (LL.map Value.string).toArray 9)) := (Below.refl _ _).alloc (Nat.le_refl _) _
      have HLB := Lib.hid hLB; have HB4 := Lib.hid hB4
      clear hLB hB4
      refine Lib.hid ?_
      go_wp2_with fail
      go_loopw [106] (fun iv w2 => ∃ j : Nat, j ≤ n2 ∧ iv = .int .i64 (j : Int) ∧ LB w2 W2.heap.size LL ∧ Below W2.heap.size W2 w2) (fun iv _ => n2 - (intOf iv).toNat)
      case atStart => exact ⟨0, Nat.zero_le _, rfl, HLB.out, HB4.out⟩
      case round =>
        obtain ⟨j, hj, rfl, hL, hBB⟩ := hrel
        by_cases hlt : j < n2
        · have hjl : j < LL.length := by rw [HN2.out]; exact hlt
          have hc := hL.cell j hjl
          have hxm : LL.getD j ⟨#[]⟩ ∈ LL := by rw [List.getD_eq_getElem?_getD, List.getElem?_eq_getElem hjl]; exact List.getElem_mem _
          have hxs := HSM.out _ hxm
          have hxb := HGP.out _ hxm
          have CC := fun W => cutB (LL.getD j ⟨#[]⟩) 35 W (by omega)
          have hul := upTo_le 35 (bytes (LL.getD j ⟨#[]⟩))
          rw [bytes_length] at hul
          have CTr := fun W => trim_any (str (upTo 35 (bytes (LL.getD j ⟨#[]⟩)))) W (by rw [bytes_str]; exact hxb) (by rw [str_size]; omega)
          have v2 : (0 : Int) ≤ (j : Int) + 1 ∧ (j : Int) + 1 < 9223372036854775808 := by have := HNL2.out; clear eA ei; omega
          have ej := (wrap_int _ v2.1 v2.2).2
          have gj0 : (0 : Int) ≤ (j : Int) := Int.natCast_nonneg j
          have gj1 : (j : Int) < (n2 : Int) := by clear eA ei ej; omega
          have gj2 : decide ((0 : Int) ≤ (j : Int)) = true := decide_eq_true gj0
          generalize LL.getD j ⟨#[]⟩ = x at *
          generalize cutW 35 (bytes x) = cw at *
          generalize str (upTo 35 (bytes x)) = y at *
          have KC := Lib.hid CC; have KT := Lib.hid CTr; have HL := Lib.hid hL; have HBB := Lib.hid hBB; have HJ2 := Lib.hid hlt
          clear CC CTr hL hBB hjl hxm hxs hxb hul v2 hlt hj
          go_wp2_with (go_at_call 30; refine (KC.out _).mono ?_; rintro e5 w5 ⟨rfl, hb5⟩; refine Hid.out ?_)
          have HL5 := Lib.hid (HL.out.keep hb5); have HBB5 := Lib.hid (Below.chain HBB.out hb5)
          clear hb5
          refine Lib.hid ?_
          go_wp2_with (go_at_call 31; refine (KT.out _).mono ?_; rintro e6 w6 ⟨rfl, hb6⟩; refine Hid.out ?_)
          have HL6 := Lib.hid (HL5.out.keep hb6); have HBB6 := Lib.hid (Below.chain HBB5.out hb6)
          clear hb6
          refine Lib.hid ?_
          go_wp2
          go_roundw
          case rel => exact ⟨j + 1, HJ2.out, (by first | exact congrArg (Value.int .i64) (Int.natCast_add j 1).symm | exact congrArg (Value.int .i64) (ej.trans (Int.natCast_add j 1).symm)), HL6.out, HBB6.out⟩
          case measure =>
            have hj9 := HJ2.out
            first
            | (rw [ej]
               clear ej eA ei
               show n2 - ((j : Int) + 1).toNat < n2 - ((j : Int)).toNat
               omega)
            | (clear ej eA ei
               show n2 - ((j : Int) + 1).toNat < n2 - ((j : Int)).toNat
               omega)
        · obtain rfl : j = n2 := by clear eA ei; omega
          have hge : ¬ (j : Int) < (j : Int) := Int.lt_irrefl _
          have hb9 := Below.chain HD2.out hBB
          obtain ⟨y1, y2⟩ := KK.out _ hb9
          have HB9 := Lib.hid (Below.chain HBA.out hb9)
          clear hb9 hL hBB hlt hj x1 x2
          go_wp2
          go_roundw
          case rel => exact ⟨i + 1, A + tt.size, HJ.out.1, (by first | exact congrArg (Value.int .i64) (ei.trans (Int.natCast_add i 1).symm) | exact congrArg (Value.int .i64) (Int.natCast_add i 1).symm), (by first | exact congrArg (Value.int .i64) (eA.trans (Int.natCast_add A tt.size).symm) | exact congrArg (Value.int .i64) (Int.natCast_add A tt.size).symm), HNX.out, HB9.out⟩
          case measure =>
            have hj9 := HJ.out.1
            first
            | (rw [ei]
               clear ei eA
               show m + 1 - ((i : Int) + 1).toNat < m + 1 - ((i : Int)).toNat
               omega)
            | (clear ei eA
               show m + 1 - ((i : Int) + 1).toNat < m + 1 - ((i : Int)).toNat
               omega)
    · have ge : decide (((m + 1 : Nat) : Int) < (m : Int) + 1) = false := by rw [decide_eq_false_iff_not]; omega
      have ge2 : decide ((m : Int) + 1 < (m : Int) + 1) = false := by rw [decide_eq_false_iff_not]; omega
      have HB := Lib.hid (Below.chain HB3.out hB)
      clear hB hi
      have KA9 := Lib.hid (KA.out _ HB.out)
      go_wp2_with fail
      refine KA9.out.mono ?_
      rintro e9 w9 ⟨rfl, hb9⟩
      have HB9 := Lib.hid (Below.chain HB.out hb9); clear hb9
      go_wp2
      go_ret
      exact ⟨rfl, HB9.out⟩
end Go.Proofs.YtmogmneaomndeaaDoor
