/-
  The law LexerReturns.
-/
import Derived.Test.YtmogmneaomndeaaDoorLexK
import Derived.Test.YtmogmneaomndeaaDoorLexX
import Derived.Test.YtmogmneaomndeaaDoorLScans
import Derived.Deep.RegionHeld3
import Derived.DataShut
set_option linter.unusedSimpArgs false
set_option linter.unusedVariables false
namespace Go.Proofs.YtmogmneaomndeaaDoor
open Go Go.Proofs Go.RowKit

theorem wrap_small (z : Int) (h0 : 0 ≤ z) (h1 : z < 9223372036854775808) : IntKind.i64.wrap z = z ∧ wrap64 z = z := by
  have e : wrap64 z = z := by unfold wrap64; omega
  refine ⟨?_, e⟩
  exact (show IntKind.i64.wrap z = wrap64 z by unfold wrap64; exact IntKind.wrap_i64 _).trans e
theorem run_str_l {P : Program} (W : World) (t : TypeId) (s : ByteArray) (ht : P.underlying t = some .string) (l : Nat) (h2 : l ≤ s.size) :
    (Instr.slice t (.string s) (some (.int .i64 (l : Int))) none none).run P W = .ok (.string (s.extract l s.size)) W := by
  have g0 : (0 : Int) ≤ (l : Int) := by omega
  have g2 : (l : Int) ≤ (s.size : Int) := by omega
  simp [Instr.slice, run_underlying ht, Instr.sliceBounds, run_sliceBound, sliced, g0, g2]
set_option maxHeartbeats 1000000 in
theorem lreturns_walk (s : ByteArray) (which : Int) (hsz : s.size ≤ 9223372036854775807) (hwh : (Lit.int .u8 which).wf = true) (mx : Int) (w : World) (ht : Lib.TabBelow Tryd.prog w.heap.size w "surveyor/lexer.classes" .u8 clsTab) (hm : w.cell? ⟨0, 0, none⟩ = some (.int .i64 mx)) (hw : 0 < w.heap.size) :
    Calls Tryd.prog 8 #[.string s, .int .u8 which] w fun e w' => e = .returned (.bool true) ∧ Below w.heap.size w w' := by
  have CA : ∀ W, Below w.heap.size w W → Calls Tryd.prog 11 #[] W fun e w' => e = .returned (.bool true) ∧ Below W.heap.size W w' := fun W hW => awake_any mx W (Lib.tabBelow_of_tabIs (ht W hW)) (by rw [hW.cell (p := ⟨0, 0, none⟩) hw]; exact hm) (Nat.lt_of_lt_of_le hw hW.size)
  by_cases h1 : 400 < s.size
  · have g1 : decide ((400 : Int) < (s.size : Int)) = true := by rw [decide_eq_true_iff]; omega
    have H1 := Lib.hid h1; have KA := Lib.hid CA; clear h1 CA ht hm hw hsz hwh
    go_enter Tryd.func8, Tryd.ntmps8
    go_wp2_with (go_at_call 11; refine (KA.out _ (Below.refl _ _)).mono ?_; rintro e w3 ⟨rfl, hb3⟩; refine Hid.out ?_)
    have HB3 := Lib.hid hb3; clear hb3
    refine Lib.hid ?_
    go_wp2
    go_ret
    exact ⟨rfl, HB3.out⟩
  have g1 : decide ((400 : Int) < (s.size : Int)) = false := by rw [decide_eq_false_iff_not]; omega
  have hle : s.size ≤ 65536 := by omega
  have CS : ∀ (x : ByteArray) W, Below w.heap.size w W → Calls Tryd.prog 12 #[.string x] W fun e w' => ∃ ao c, e = .returned (.tuple #[.slice ao (scR x).1.length c, .int .i64 ((scR x).2.1 : Nat), .int .i64 ((scR x).2.2 : Nat)]) ∧ TRow w' ao c (scR x).1 ∧ Below W.heap.size W w' := fun x W hW => by
    refine (scan_any x W (Lib.tabBelow_of_tabIs (ht W hW))).mono ?_
    rintro e w' ⟨v, rfl, ho, hb⟩
    obtain ⟨ao, c, rfl, hr⟩ := TRow.of_owns ho
    exact ⟨ao, c, rfl, hr, hb⟩
  have CS1 := CS s
  have hl1 := scR_len (s := s)
  by_cases he : (scR s).2.2 ≠ 0
  · generalize (scR s).2.1 = at1 at *
    generalize (scR s).2.2 = er at *
    generalize (scR s).1.length = n1 at *
    have te : ((er : Int) != 0) = true := by rw [bne_iff_ne]; omega
    have te2 : ((er : Int) == 0) = false := by rw [beq_eq_false_iff_ne]; omega
    have H1 := Lib.hid h1; have KA := Lib.hid CA; have KS := Lib.hid CS1; have HE := Lib.hid he; clear h1 CA CS CS1 ht hm hw hsz hwh hle hl1 he
    go_enter Tryd.func8, Tryd.ntmps8
    go_wp2_with (go_at_call 12; refine (KS.out _ (Below.refl _ _)).mono ?_; rintro e w3 ⟨a3, c3, rfl, hr3, hb3⟩; refine Hid.out ?_)
    have HB3 := Lib.hid hb3; clear hb3 hr3
    refine Lib.hid ?_
    go_wp2_with (go_at_call 11; refine (KA.out _ HB3.out).mono ?_; rintro e w4 ⟨rfl, hb4⟩; refine Hid.out ?_)
    have HB4 := Lib.hid (Below.chain HB3.out hb4); clear hb4
    refine Lib.hid ?_
    go_wp2
    go_ret
    exact ⟨rfl, HB4.out⟩
  replace he : (scR s).2.2 = 0 := by omega
  obtain ⟨T, hj, hTs, hT0, hal, hnot, hck, hts⟩ := ret_math hle he
  have hcell0 : ∀ W, Below w.heap.size w W → Lib.TabBelow Tryd.prog W.heap.size W "surveyor/lexer.classes" .u8 clsTab := fun W hW => Lib.tabBelow_of_tabIs (ht W hW)
  have CJ : ∀ W ao c, Below w.heap.size w W → TRow W ao c (scR s).1 → Calls Tryd.prog 23 #[.slice ao (scR s).1.length c] W fun e w' => e = .returned (.tuple #[.string T, .int .i64 0]) ∧ Below W.heap.size W w' := fun W ao c hW hr => by
    have := join_any (scR s).1 ao c W hr hts (fun q t ht => Nat.le_trans (ck_short q t ht) (by decide)) (by omega) (hcell0 W hW)
    rw [hj] at this
    exact this
  have CS2 := CS T
  rw [hT0] at CS2
  have CM : ∀ (W : World) ao bo c d, TRow W ao c (scR s).1 → TRow W bo d (scR T).1 → Calls Tryd.prog 32 #[.slice ao (scR s).1.length c, .slice bo (scR T).1.length d] W fun e w' => e = .returned (.bool true) ∧ Below W.heap.size W w' := fun W ao bo c d q1 q2 => by
    have := alike_any (scR s).1 (scR T).1 ao bo c d W q1 q2 (by omega)
    rwa [hal] at this
  have CX : ∀ (X : ByteArray) (W : World) ao bo c d, TRow W ao c (scR s).1 → TRow W bo d (scR X).1 → Calls Tryd.prog 32 #[.slice ao (scR s).1.length c, .slice bo (scR X).1.length d] W fun e w' => e = .returned (.bool (alB (scR s).1 (scR X).1)) ∧ Below W.heap.size W w' := fun X W ao bo c d q1 q2 => alike_any (scR s).1 (scR X).1 ao bo c d W q1 q2 (by omega)
  rw [he] at CS1
  have tlt : decide ((s.size : Int) < (T.size : Int)) = false := by rw [decide_eq_false_iff_not]; omega
  have tlt2 : decide (s.size < T.size) = false := by rw [decide_eq_false_iff_not]; omega
  obtain ⟨q, hq⟩ : ∃ q : Nat, which = (q : Int) ∧ q < 256 := by
    have := (Lit.wf_int_iff .u8 which).1 hwh
    have h0 : 0 ≤ which := this.1
    have h2 : which ≤ 255 := this.2
    exact ⟨which.toNat, by omega, by omega⟩
  obtain ⟨rfl, hq256⟩ := hq
  have hT400 : T.size ≤ 400 := by omega
  generalize (scR s).2.1 = at1 at *
  generalize (scR T).2.1 = at2 at *
  generalize (scR T).1 = L2 at *
  generalize (scR s).1 = L1 at *
  generalize L1.length = n1 at *
  generalize L2.length = n2 at *
  have KA := Lib.hid CA; have KS := Lib.hid CS; have KS1 := Lib.hid CS1; have KS2 := Lib.hid CS2; have KJ := Lib.hid CJ; have KM := Lib.hid CM; have KX := Lib.hid CX; have HNOT := Lib.hid hnot; have HT := Lib.hid hT400; have HQ := Lib.hid hq256; have H1 := Lib.hid h1
  clear CA CS CS1 CS2 CJ CM CX hnot hal hj hT0 hTs he hl1 hle hck hts hcell0 hT400 hq256 h1 ht hm hw hsz hwh
  go_enter Tryd.func8, Tryd.ntmps8
  go_wp2_with (go_at_call 12; refine (KS1.out _ (Below.refl _ _)).mono ?_; rintro e w3 ⟨a3, c3, rfl, hr3, hb3⟩; refine Hid.out ?_)
  have HB3 := Lib.hid hb3; have HR3 := Lib.hid hr3; clear hb3 hr3
  have KJ3 := Lib.hid (KJ.out _ _ _ HB3.out HR3.out)
  refine Lib.hid ?_
  go_wp2_with (go_at_call 23; refine KJ3.out.mono ?_; rintro e w4 ⟨rfl, hb4⟩; refine Hid.out ?_)
  have HR4 := Lib.hid (HR3.out.keep hb4); have HB4 := Lib.hid (Below.chain HB3.out hb4); clear hb4
  refine Lib.hid ?_
  go_wp2_with (go_at_call 12; refine (KS2.out _ HB4.out).mono ?_; rintro e w5 ⟨a5, c5, rfl, hr5, hb5⟩; refine Hid.out ?_)
  have HR45 := Lib.hid (HR4.out.keep hb5); have HR5 := Lib.hid hr5; have HB5 := Lib.hid (Below.chain HB4.out hb5); clear hr5 hb5
  refine Lib.hid ?_
  go_wp2_with (go_at_call 32; refine (KM.out _ _ _ _ _ HR45.out HR5.out).mono ?_; rintro e w6 ⟨rfl, hb6⟩; refine Hid.out ?_)
  have HR6 := Lib.hid (HR45.out.keep hb6); have HB6 := Lib.hid (Below.chain HB5.out hb6); clear hb6
  clear HR3 HR4 HR5 HR45 HB3 HB4 HB5 KJ KJ3 KS1 KS2 KM
  refine Lib.hid ?_
  go_wp2_with fail
  go_loopw [13, 64] (fun v iv wr => ∃ (j n : Nat) (acc : List Nat) (vv : Value), acc.length = n ∧ n ≤ j ∧ j ≤ T.size ∧ iv = .int .i64 (j : Int) ∧ vv = v ∧ (∀ k ∈ acc, k < T.size) ∧ wr.ownsRow w6.heap.size 3 1 vv n (nCells acc) ∧ Below w6.heap.size w6 wr) (fun _ iv _ => T.size - (intOf iv).toNat)
  case atStart => exact ⟨0, 0, [], _, rfl, Nat.le_refl _, Nat.zero_le _, rfl, rfl, by simp, World.ownsRow_nil .., Below.refl _ _⟩
  case round =>
    obtain ⟨j, n, acc, vv, hn, hnj, hj, rfl, rfl, hacc, ho, hB⟩ := hrel
    by_cases hlt : j < T.size
    · have hb := byteAt_get T j hlt
      have g0 : (0 : Int) ≤ (j : Int) := by omega
      have g2 : (j : Int) < (T.size : Int) := by omega
      have ej : wrap64 ((j : Int) + 1) = (j : Int) + 1 := by have := HT.out; unfold wrap64; omega
      have HJ := Lib.hid hlt
      generalize byteAt T j = b at *
      by_cases h32 : b = 32
      · subst h32
        have hwl : (acc ++ [j]).length = n + 1 := by simp [hn]
        have hacc2 : ∀ k ∈ acc ++ [j], k < T.size := fun k hk => by
          rcases List.mem_append.1 hk with h | h
          · exact hacc k h
          · rw [List.mem_singleton.1 h]; exact hlt
        have A1 := (Below.refl wr.heap.size wr).alloc (Nat.le_refl _) (Obj.cells #[.int .i64 (j : Int)] 3)
        have O5 := owns_below1 ho A1
        have B5 := Below.chain hB A1
        have hv4 : ∀ b, Value.ownBlock _ = some b → w6.heap.size ≤ b := fun b e => (ho.lt b e).1
        have hz5 := B5.size
        have hnle : n ≤ 1200000 := by have := HT.out; omega
        have HN := Lib.hid hn; have HWL := Lib.hid hwl; have HACC := Lib.hid hacc2; have HO5 := Lib.hid O5; have HB5 := Lib.hid B5; have HV4 := Lib.hid hv4; have HZ5 := Lib.hid hz5; have HNLE := Lib.hid hnle; have HNJ := Lib.hid hnj
        clear hn hwl hacc hacc2 A1 O5 B5 hv4 hz5 hnle ho hB hnj hj
        go_wp2_with (first | (at_builtin; refine wpList_append_nat rfl (.tmp 71) (.tmp 73) rfl w6.heap.size _ n acc HN.out (by simp [Act.eval, Act.put]) HO5.out HNLE.out HZ5.out wr.heap.size j (by simp [Act.eval, Act.put]) (by go_cell) ?_; intro g7 cap7 w7 ho7 hg7; refine Hid.out ?_) | fail)
        have hb7 := HB5.out.grown hg7 HZ5.out (fun b hb => HV4.out b hb)
        have HO7 := Lib.hid ho7; have HB7 := Lib.hid hb7
        clear ho7 hg7 hb7
        refine Lib.hid ?_
        go_wp2
        go_roundw
        case rel => exact ⟨j + 1, n + 1, acc ++ [j], _, HWL.out, by have := HNJ.out; omega, HJ.out, (by first | exact congrArg (Value.int .i64) (Int.natCast_add j 1).symm | exact congrArg (Value.int .i64) (ej.trans (Int.natCast_add j 1).symm)), rfl, HACC.out, HO7.out, HB7.out⟩
        case measure => have := HJ.out; first | (show T.size - ((j : Int) + 1).toNat < T.size - ((j : Int)).toNat; omega) | (rw [ej]; show T.size - ((j : Int) + 1).toNat < T.size - ((j : Int)).toNat; omega)
      · have n32 : ((b : Int) == 32) = false := by rw [beq_eq_false_iff_ne]; omega
        have HN := Lib.hid hn; have HACC := Lib.hid hacc; have HO := Lib.hid ho; have HB := Lib.hid hB; have HNJ := Lib.hid hnj; have H32 := Lib.hid h32
        clear hn hacc ho hB hnj hj h32
        go_wp2
        go_roundw
        case rel => exact ⟨j + 1, n, acc, _, HN.out, by have := HNJ.out; omega, HJ.out, (by first | exact congrArg (Value.int .i64) (Int.natCast_add j 1).symm | exact congrArg (Value.int .i64) (ej.trans (Int.natCast_add j 1).symm)), rfl, HACC.out, HO.out, HB.out⟩
        case measure => have := HJ.out; first | (show T.size - ((j : Int) + 1).toNat < T.size - ((j : Int)).toNat; omega) | (rw [ej]; show T.size - ((j : Int) + 1).toNat < T.size - ((j : Int)).toNat; omega)
    · obtain rfl : j = T.size := by omega
      have hge : ¬ ((T.size : Nat) : Int) < (T.size : Int) := by omega
      obtain ⟨vo, hvo⟩ : ∃ ao : Option Addr, ∃ cc, vv = Value.slice ao n cc ∧ (0 < n → ∃ g, ao = some ⟨g, 0, none⟩) ∧ n ≤ cc := by
        rcases ho.2 with ⟨e, h0⟩ | ⟨g, cap, cur, e, -, -, hc1, -⟩
        · exact ⟨none, 0, by rw [e, h0], by omega, by omega⟩
        · exact ⟨some ⟨g, 0, none⟩, cap, e, fun _ => ⟨g, rfl⟩, hc1⟩
      obtain ⟨cc, rfl, hpos, hcc⟩ := hvo
      have HB := Lib.hid (Below.chain HB6.out hB)
      have HR7 := Lib.hid (HR6.out.keep hB)
      by_cases hn0 : n = 0
      · subst hn0
        clear ho hB hn hnj hj hlt hacc hpos hcc
        have KA8 := Lib.hid (KA.out _ HB.out)
        go_wp2_with fail
        refine KA8.out.mono ?_
        rintro e w8 ⟨rfl, hb8⟩
        have HB8 := Lib.hid (Below.chain HB.out hb8); clear hb8
        go_wp2
        go_ret
        exact ⟨rfl, HB8.out⟩
      · obtain ⟨g, rfl⟩ := hpos (by omega)
        have z0 : ((n : Int) == 0) = false := by rw [beq_eq_false_iff_ne]; omega
        have z1 : (n == 0) = false := by rw [beq_eq_false_iff_ne]; omega
        have hrn : q % n < n := Nat.mod_lt _ (by omega)
        have hql := HQ.out
        have hnT := HT.out
        have hle2 : q % n ≤ q := Nat.mod_le _ _
        obtain ⟨k, hk, hkT⟩ : ∃ k : Nat, wr.cell? ⟨g, q % n, none⟩ = some (.int .i64 (k : Int)) ∧ k < T.size := by
          have hra : q % n < acc.length := by omega
          refine ⟨acc[q % n]'hra, ?_, hacc _ (List.getElem_mem _)⟩
          rw [ho.cellAt (q % n) (by omega)]
          unfold nCells
          rw [List.getElem?_map, List.getElem?_eq_getElem hra]; rfl
        have g0 : (0 : Int) ≤ ((q % n : Nat) : Int) := by omega
        have g3 : ((q % n : Nat) : Int) < (n : Int) := by omega
        have hz : (T.extract 0 k).size + (T.extract (k + 1) T.size).size = T.size - 1 := by
          rw [extract_take, extract_drop, str_size, str_size, List.length_take, List.length_drop, bytes_length]; omega
        have hrun1 : ∀ W : World, (Instr.slice 9 (.string T) none (some (.int .i64 (k : Int))) none).run Tryd.prog W = .ok (.string (T.extract 0 k)) W := fun W => run_str_h W 9 T Tryd.underlying9 k (by omega)
        have hrun2 : ∀ W : World, (Instr.slice 9 (.string T) (some (.int .i64 ((k : Int) + 1))) none none).run Tryd.prog W = .ok (.string (T.extract (k + 1) T.size)) W := fun W => by
          rw [show (k : Int) + 1 = ((k + 1 : Nat) : Int) from (Int.natCast_add k 1).symm]
          exact run_str_l W 9 T Tryd.underlying9 (k + 1) (by omega)
        have hXs : (T.extract 0 k ++ T.extract (k + 1) T.size).size < T.size := by rw [ByteArray.size_append, hz]; omega
        have hk9 : (k : Int) + 1 < 9223372036854775808 := by clear hz hrun1 hrun2 hXs; omega
        have hk8 : (0 : Int) ≤ (k : Int) + 1 := by clear hz hrun1 hrun2 hXs; omega
        have ek := (wrap_small ((k : Int) + 1) hk8 hk9).2
        have ek2 := (wrap_small ((k : Int) + 1) hk8 hk9).1
        have h9 : ¬ 9223372036854775807 < (T.extract 0 k).size + (T.extract (k + 1) T.size).size := by rw [hz]; clear hz hrun1 hrun2 hXs hk9 hk8 ek ek2; omega
        have r1 : (q : Int).tmod (n : Int) = ((q % n : Nat) : Int) := by rw [Int.ofNat_tmod]
        have r2 : (q : Int) % (n : Int) = ((q % n : Nat) : Int) := by rw [Int.natCast_emod]
        have q9 : ((q % n : Nat) : Int) < 9223372036854775808 := by clear hz hrun1 hrun2 hXs hk9 hk8 ek ek2 h9 r1 r2; omega
        have r0 := wrap_small ((q % n : Nat) : Int) g0 q9
        have r3 : wrap64 ((q : Int) % (n : Int)) = ((q % n : Nat) : Int) := by rw [r2]; exact r0.2
        have r4 := r0.2
        have r5 : IntKind.i64.wrap ((q : Int).tmod (n : Int)) = ((q % n : Nat) : Int) := by rw [r1]; exact r0.1
        have q8 : (q : Int) < 9223372036854775808 := by clear hz hrun1 hrun2 hXs hk9 hk8 ek ek2 h9 r1 r2 r3 r4 r5; omega
        have r6 := (wrap_small (q : Int) (Int.natCast_nonneg q) q8).1
        have r7 := r0.1
        clear r0 hk9 hk8 q8 q9
        generalize T.extract 0 k = P1 at *
        generalize T.extract (k + 1) T.size = P2 at *
        have hnX := fun h0 => HNOT.out (P1 ++ P2) hXs h0
        have KSX := Lib.hid (KS.out (P1 ++ P2))
        have KXX := Lib.hid (KX.out (P1 ++ P2))
        generalize (scR (P1 ++ P2)) = RX at *
        obtain ⟨LX, atX, erX⟩ := RX
        dsimp only at hnX
        have HNX := Lib.hid hnX
        have HPS := Lib.hid (And.intro hz (And.intro hrn (And.intro hql (And.intro hle2 (And.intro hXs hkT)))))
        have HACC := Lib.hid hacc; have HO := Lib.hid ho; have HN0 := Lib.hid hn0
        clear hacc ho hn0 hnX hz hrn hql hle2 hXs hkT hB hn hnj hj hlt hcc hpos hnT
        generalize q % n = r at *
        have HKK := Lib.hid (And.intro ek (And.intro ek2 (And.intro h9 (And.intro hrun1 hrun2))))
        clear ek ek2 h9 hrun1 hrun2
        go_wp2_with fail
        obtain ⟨ek, ek2, h9, hrun1, hrun2⟩ := HKK.out
        clear HKK r1 r2 r3 r4 r5 r6 r7
        have hD : Below w.heap.size w wr.drew := HB.out.drew
        have hDr : Below wr.heap.size wr wr.drew := (Below.refl _ _).drew
        have HR8 := Lib.hid (HR7.out.keep hDr)
        go_region_held3 (fun w' => Below w.heap.size w w') (first | (with_reducible exact hD) | (with_reducible exact Below.chain hD hb8) | fail) (first | (go_at_call 12; (first | (with_reducible refine (KSX.out _ hD).mono ?_); rintro e w8 ⟨a8, c8, rfl, hr8, hb8⟩)))
        all_goals
          have HR9 := Lib.hid (HR8.out.keep hb8)
          have HRX := Lib.hid hr8
          have HB8 := Lib.hid (Below.chain hD hb8)
          clear hb8 hr8 hD hDr HR7 HR8 ek ek2 h9 hrun1 hrun2
          by_cases hx : erX = 0
          · subst hx
            have hfal := HNX.out rfl
            have KX2 := KXX.out _ _ _ _ _ HR9.out HRX.out
            rw [hfal] at KX2
            have KX3 := Lib.hid KX2
            clear KX2 hfal
            go_wp2_with fail
            refine KX3.out.mono ?_
            rintro e w9 ⟨rfl, hb9⟩
            have HB9 := Lib.hid (Below.chain HB8.out hb9); clear hb9
            have KA9 := Lib.hid (KA.out _ HB9.out)
            go_wp2_with fail
            refine KA9.out.mono ?_
            rintro e wa ⟨rfl, hba⟩
            have HBA := Lib.hid (Below.chain HB9.out hba); clear hba
            go_wp2
            go_ret
            exact ⟨rfl, HBA.out⟩
          · have te : ((erX : Int) != 0) = true := by rw [bne_iff_ne]; omega
            have te2 : ((erX : Int) == 0) = false := by rw [beq_eq_false_iff_ne]; omega
            have HX0 := Lib.hid hx; clear hx
            have KA8 := Lib.hid (KA.out _ HB8.out)
            go_wp2_with fail
            refine KA8.out.mono ?_
            rintro e w9 ⟨rfl, hb9⟩
            have HB9 := Lib.hid (Below.chain HB8.out hb9); clear hb9
            go_wp2
            go_ret
            exact ⟨rfl, HB9.out⟩
end Go.Proofs.YtmogmneaomndeaaDoor
