/-
  The law LexerLines.
-/
import Derived.Test.YtmogmneaomndeaaDoorLexK
import Derived.Test.YtmogmneaomndeaaDoorLexY
import Derived.Test.YtmogmneaomndeaaDoorLScans
import Derived.Deep.RegionHeld3
set_option linter.unusedSimpArgs false
set_option linter.unusedVariables false
namespace Go.Proofs.YtmogmneaomndeaaDoor
open Go Go.Proofs Go.RowKit

set_option maxRecDepth 20000 in
set_option maxHeartbeats 1000000 in
theorem llines_walk (a b : ByteArray) (hsa : a.size ≤ 1048576) (hsb : b.size ≤ 1048576) (mx : Int) (w : World) (ht : Lib.TabBelow Tryd.prog w.heap.size w "surveyor/lexer.classes" .u8 clsTab) (hm : w.cell? ⟨0, 0, none⟩ = some (.int .i64 mx)) (hw : 0 < w.heap.size) :
    Calls Tryd.prog 10 #[.string a, .string b] w fun e w' => e = .returned (.bool true) ∧ Below w.heap.size w w' := by
  have CA : ∀ W, Below w.heap.size w W → Calls Tryd.prog 11 #[] W fun e w' => e = .returned (.bool true) ∧ Below W.heap.size W w' := fun W hW => awake_any mx W (Lib.tabBelow_of_tabIs (ht W hW)) (by rw [hW.cell (p := ⟨0, 0, none⟩) hw]; exact hm) (Nat.lt_of_lt_of_le hw hW.size)
  have es : wrap64 ((a.size : Int) + (b.size : Int)) = (a.size : Int) + (b.size : Int) := (wrap_int _ (by omega) (by omega)).2
  by_cases h1 : 500 < a.size + b.size
  · have g1 : decide ((500 : Int) < (a.size : Int) + (b.size : Int)) = true := by rw [decide_eq_true_iff]; omega
    have H1 := Lib.hid h1; have KA := Lib.hid CA; clear h1 CA ht hm hw hsa hsb
    go_enter Tryd.func10, Tryd.ntmps10
    go_wp2_with (go_at_call 11; refine (KA.out _ (Below.refl _ _)).mono ?_; rintro e w3 ⟨rfl, hb3⟩; refine Hid.out ?_)
    have HB3 := Lib.hid hb3; clear hb3
    refine Lib.hid ?_
    go_wp2
    go_ret
    exact ⟨rfl, HB3.out⟩
  have g1 : decide ((500 : Int) < (a.size : Int) + (b.size : Int)) = false := by rw [decide_eq_false_iff_not]; omega
  have hle : a.size + b.size ≤ 500 := by omega
  have CS : ∀ (x : ByteArray) W, Below w.heap.size w W → Calls Tryd.prog 12 #[.string x] W fun e w' => ∃ ao c, e = .returned (.tuple #[.slice ao (scR x).1.length c, .int .i64 ((scR x).2.1 : Nat), .int .i64 ((scR x).2.2 : Nat)]) ∧ TRow w' ao c (scR x).1 ∧ Below W.heap.size W w' := fun x W hW => by
    refine (scan_any x W (Lib.tabBelow_of_tabIs (ht W hW))).mono ?_
    rintro e w' ⟨v, rfl, ho, hb⟩
    obtain ⟨ao, c, rfl, hr⟩ := TRow.of_owns ho
    exact ⟨ao, c, rfl, hr, hb⟩
  obtain ⟨l1, l2, l3⟩ := lines_math hle
  have hpl := lines_place a b hle
  have CP := fun W => place_any (a ++ (⟨#[10]⟩ : ByteArray) ++ b) ((a.size : Int) + 1) W
  rw [hpl] at CP
  dsimp only at CP
  have CS1 := CS a; have CS2 := CS b; have CS3 := CS (a ++ (⟨#[10]⟩ : ByteArray) ++ b)
  have hn1 := scR_len (s := a)
  have hn2 := scR_len (s := b)
  have hoff := scR_off (s := b) (by omega)
  have CN : ∀ W, Calls Tryd.prog 34 #[.string a, .string ⟨#[10]⟩] W fun e w' => e = .returned (.int .i64 ((bytes a).count 10 : Nat)) ∧ w' = W := fun W => Tryd.strings_Count_one a 10 W
  have hcn := List.count_le_length (l := bytes a) (a := 10)
  rw [bytes_length] at hcn
  have HAL : ∀ W : World, Below W.heap.size W (W.alloc (Obj.cells (wordsL.map Value.string).toArray 9)) := fun W => (Below.refl _ _).alloc (Nat.le_refl _) _
  have CW : ∀ W : World, Calls Tryd.prog 16 #[] W fun e w' => ∃ g, e = .returned (.slice (some ⟨g, 0, none⟩) 19 19) ∧ WRow w' g 19 wordsL ∧ Below W.heap.size W w' := fun W => by
    refine (words_any W).mono ?_
    rintro e w' ⟨rfl, rfl⟩
    exact ⟨_, rfl, wrow_new W, HAL W⟩
  have CI := fun b c W hr => sorted_any b c W hr
  have h9a : ¬ 9223372036854775807 < a.size + 1 := by omega
  have h9b : ¬ 9223372036854775807 < a.size + 1 + b.size := by omega
  have hsz10 : (a ++ (⟨#[10]⟩ : ByteArray)).size = a.size + 1 := ByteArray.size_append
  have h9c : ¬ 9223372036854775807 < (a ++ (⟨#[10]⟩ : ByteArray)).size + b.size := by rw [hsz10]; omega
  have H9 := Lib.hid (And.intro h9a (And.intro h9b h9c))
  clear hsz10 HAL CS hpl h9a h9b h9c
  generalize scR (a ++ (⟨#[10]⟩ : ByteArray) ++ b) = R3 at *
  generalize scR a = R1 at *
  generalize scR b = R2 at *
  generalize (bytes a).count 10 = cn at *
  obtain ⟨L1, at1, e1⟩ := R1
  obtain ⟨L2, at2, e2⟩ := R2
  dsimp only at l1 l2 l3 CS1 CS2 hn1 hn2 hoff
  obtain ⟨hat2, hta⟩ := hoff
  have HSA : Hid (a.size + b.size ≤ 500) := Lib.hid hle
  have KA := Lib.hid CA; have KS1 := Lib.hid CS1; have KS2 := Lib.hid CS2; have HN1 := Lib.hid hn1; have HN2 := Lib.hid hn2; have HCN := Lib.hid hcn; have KN := Lib.hid CN; have KW := Lib.hid CW; have KI := Lib.hid CI; have KP := Lib.hid CP
  by_cases he1 : e1 ≠ 0
  · have hR := l1 he1
    subst hR
    have te : ((e1 : Int) != 0) = true := by rw [bne_iff_ne]; omega
    have te2 : ((e1 : Int) == 0) = false := by rw [beq_eq_false_iff_ne]; omega
    have HE := Lib.hid he1
    dsimp only at CS3
    have KS3 := Lib.hid CS3
    clear l1 l2 l3 CS1 CS2 CS3 CA CN CW CI CP hn1 hn2 hcn hat2 hta he1 h1 hle ht hm hw hsa hsb
    generalize L1.length = n1 at *
    generalize L2.length = n2 at *
    obtain ⟨h9a, h9b, h9c⟩ := H9.out
    go_enter Tryd.func10, Tryd.ntmps10
    go_wp2_with (go_at_call 12; refine (KS1.out _ (Below.refl _ _)).mono ?_; rintro e w3 ⟨a3, c3, rfl, hr3, hb3⟩; refine Hid.out ?_)
    have HB3 := Lib.hid hb3; clear hb3 hr3
    refine Lib.hid ?_
    go_wp2_with (go_at_call 12; refine (KS2.out _ HB3.out).mono ?_; rintro e w4 ⟨a4, c4, rfl, hr4, hb4⟩; refine Hid.out ?_)
    have HB4 := Lib.hid (Below.chain HB3.out hb4); clear hb4 hr4
    refine Lib.hid ?_
    go_wp2_with (go_at_call 12; refine (KS3.out _ HB4.out).mono ?_; rintro e w5 ⟨a5, c5, rfl, hr5, hb5⟩; refine Hid.out ?_)
    have HB5 := Lib.hid (Below.chain HB4.out hb5); clear hb5 hr5
    refine Lib.hid ?_
    go_wp2_with (go_at_call 11; refine (KA.out _ HB5.out).mono ?_; rintro e w6 ⟨rfl, hb6⟩; refine Hid.out ?_)
    have HB6 := Lib.hid (Below.chain HB5.out hb6); clear hb6
    refine Lib.hid ?_
    go_wp2
    go_ret
    exact ⟨rfl, HB6.out⟩
  obtain rfl : e1 = 0 := by omega
  by_cases he2 : e2 ≠ 0
  · have hR := l2 rfl he2
    subst hR
    have te : ((e2 : Int) != 0) = true := by rw [bne_iff_ne]; omega
    have te2 : ((e2 : Int) == 0) = false := by rw [beq_eq_false_iff_ne]; omega
    have HE := Lib.hid he2
    dsimp only at CS3
    have KS3 := Lib.hid CS3
    have q1 := (wrap_int ((a.size : Int) + 1) (by omega) (by omega)).2
    have q2 := (wrap_int ((a.size : Int) + 1 + (at2 : Int)) (by omega) (by omega)).2
    clear l1 l2 l3 CS1 CS2 CS3 CA CN CW CI CP hn1 hn2 hcn hat2 hta he2 he1 h1 hle ht hm hw hsa hsb
    generalize L1.length = n1 at *
    generalize L2.length = n2 at *
    obtain ⟨h9a, h9b, h9c⟩ := H9.out
    go_enter Tryd.func10, Tryd.ntmps10
    go_wp2_with (go_at_call 12; refine (KS1.out _ (Below.refl _ _)).mono ?_; rintro e w3 ⟨a3, c3, rfl, hr3, hb3⟩; refine Hid.out ?_)
    have HB3 := Lib.hid hb3; clear hb3 hr3
    refine Lib.hid ?_
    go_wp2_with (go_at_call 12; refine (KS2.out _ HB3.out).mono ?_; rintro e w4 ⟨a4, c4, rfl, hr4, hb4⟩; refine Hid.out ?_)
    have HB4 := Lib.hid (Below.chain HB3.out hb4); clear hb4 hr4
    refine Lib.hid ?_
    go_wp2_with (go_at_call 12; refine (KS3.out _ HB4.out).mono ?_; rintro e w5 ⟨a5, c5, rfl, hr5, hb5⟩; refine Hid.out ?_)
    have HB5 := Lib.hid (Below.chain HB4.out hb5); clear hb5 hr5
    refine Lib.hid ?_
    go_wp2_with (go_at_call 11; refine (KA.out _ HB5.out).mono ?_; rintro e w6 ⟨rfl, hb6⟩; refine Hid.out ?_)
    have HB6 := Lib.hid (Below.chain HB5.out hb6); clear hb6
    refine Lib.hid ?_
    go_wp2
    go_ret
    exact ⟨rfl, HB6.out⟩
  obtain rfl : e2 = 0 := by omega
  obtain ⟨r1, r2, hne1, hneB⟩ := l3 rfl rfl
  obtain ⟨L3, p3⟩ := R3
  dsimp only at r1 r2 CS3
  subst r1
  dsimp only at CS3
  have hl1 : 0 < L1.length := List.length_pos_iff.2 hne1
  have hne3 : L3 ≠ [] := fun e => hneB (List.map_eq_nil_iff.1 (List.append_eq_nil_iff.1 (r2.symm.trans e)).2)
  have HNE3 := Lib.hid hne3
  clear hne3 hneB
  obtain ⟨m1, hm1⟩ : ∃ m, L1.length = m + 1 := ⟨L1.length - 1, by omega⟩
  have hd1 : L1.dropLast = L1.take m1 := by rw [List.dropLast_eq_take, hm1]; rfl
  have hl3 : L3.length = m1 + L2.length := by rw [r2, List.length_append, List.length_map, List.length_dropLast, hm1]; omega
  have ht3 : L3.take m1 = L1.take m1 := by rw [r2, hd1, List.take_left' (by rw [List.length_take]; omega)]
  have hj3 : ∀ j, j < L2.length → tkD L3 (m1 + j) = shT (a.size + 1) (tkD L2 j) := fun j hj => by
    rw [tkD_eq (by omega), tkD_eq hj]
    simp only [r2]
    rw [List.getElem_append_right (by rw [List.length_dropLast]; omega)]
    simp only [List.getElem_map]
    congr 2
    rw [List.length_dropLast]; omega
  have hsame : ∀ (W : World) (ao bo : Option Addr) (c d : Nat), TRow W ao c L3 → TRow W bo d L1 → Calls Tryd.prog 14 #[.slice ao m1 c, .slice bo m1 d] W fun e w' => e = .returned (.bool true) ∧ Below W.heap.size W w' := fun W ao bo c d q1 q2 => by
    have k1 := q1.take m1
    rw [ht3] at k1
    have := same_any (L1.take m1) (L1.take m1) ao bo c d W k1 (q2.take m1) (by rw [List.length_take]; omega)
    rw [smB_self, List.length_take, show min m1 L1.length = m1 by omega] at this
    exact this
  have hn2pos : L2.length ≤ 65537 := hn2
  have u1 : (0 : Int) ≤ (a.size : Int) + 1 ∧ (a.size : Int) + 1 < 9223372036854775808 := by clear es; omega
  have u2 : (0 : Int) ≤ (m1 : Int) ∧ (m1 : Int) < 9223372036854775808 := by clear es; omega
  have u3 : (m1 : Int) + 1 - 1 = (m1 : Int) := by clear es; omega
  have u4 : (0 : Int) ≤ (m1 : Int) + (L2.length : Int) ∧ (m1 : Int) + (L2.length : Int) < 9223372036854775808 := by clear es; omega
  have u5 : (0 : Int) ≤ 2 + (cn : Int) ∧ 2 + (cn : Int) < 9223372036854775808 := by clear es; omega
  have z1 : ((m1 : Int) + 1 == 0) = false := by rw [beq_eq_false_iff_ne]; omega
  have g3 : (0 : Int) ≤ (m1 : Int) := by omega
  rw [hm1] at CS1 KS1
  rw [hl3] at CS3
  have HATA : Hid (∀ t ∈ L2, 0 ≤ t.a ∧ t.a ≤ (b.size : Int)) := Lib.hid hta
  have HL2 : Hid (∃ n2, L2.length = n2) := Lib.hid ⟨_, rfl⟩
  obtain ⟨n2, hn2e⟩ := HL2.out
  rw [hn2e] at CS2 KS2 CS3 hn2pos
  have HN3 := Lib.hid hl3; have HNE1 := Lib.hid hne1; have HM1 := Lib.hid hm1; have HJ3 := Lib.hid hj3; have HSAME := Lib.hid hsame; have KS3 := Lib.hid CS3; have HN2E := Lib.hid hn2e; have HN2P := Lib.hid hn2pos
  have hm1b : m1 ≤ 65537 := by clear es; omega
  have HM1B := Lib.hid hm1b
  rw [hn2e] at u4
  have q1 := (wrap_int _ u1.1 u1.2).2
  have q2 := (wrap_int _ u2.1 u2.2).2
  have q3 : wrap64 ((m1 : Int) + 1 - 1) = (m1 : Int) := by rw [u3]; exact q2
  have q4 := (wrap_int _ u4.1 u4.2).2
  have HQ : Hid (IntKind.i64.wrap ((m1 : Int) + 1 - 1) = (m1 : Int) ∧ IntKind.i64.wrap (m1 : Int) = (m1 : Int) ∧ IntKind.i64.wrap (2 + (cn : Int)) = 2 + (cn : Int) ∧ IntKind.i64.wrap ((a.size : Int) + 1) = (a.size : Int) + 1) := Lib.hid ⟨by rw [u3]; exact (wrap_int _ u2.1 u2.2).1, (wrap_int _ u2.1 u2.2).1, (wrap_int _ u5.1 u5.2).1, (wrap_int _ u1.1 u1.2).1⟩
  clear u1 u2 u3 u4 u5
  clear l1 l2 l3 CS1 CS2 CS3 CA CN CW CI CP hn1 hn2 hcn hat2 hta he2 he1 h1 hle ht hm hw hsa hsb r2 hl1 hd1 ht3 hj3 hl3 hne1 hm1 hsame hn2e hn2pos hm1b
  go_enter Tryd.func10, Tryd.ntmps10
  go_wp2_with (go_at_call 12; refine (KS1.out _ (Below.refl _ _)).mono ?_; rintro e w3 ⟨a3, c3, rfl, hr3, hb3⟩; refine Hid.out ?_)
  have HB3 := Lib.hid hb3; have HR3 := Lib.hid hr3; clear hb3 hr3
  refine Lib.hid ?_
  go_wp2_with (go_at_call 12; refine (KS2.out _ HB3.out).mono ?_; rintro e w4 ⟨a4, c4, rfl, hr4, hb4⟩; refine Hid.out ?_)
  have HB4 := Lib.hid (Below.chain HB3.out hb4); have HR34 := Lib.hid (HR3.out.keep hb4); have HR4 := Lib.hid hr4; clear hb4 hr4
  refine Lib.hid ?_
  obtain ⟨h9a, h9b, h9c⟩ := H9.out
  go_wp2_with (go_at_call 12; refine (KS3.out _ HB4.out).mono ?_; rintro e w5 ⟨a5, c5, rfl, hr5, hb5⟩; refine Hid.out ?_)
  clear h9a h9b h9c
  have HB5 := Lib.hid (Below.chain HB4.out hb5); have HR35 := Lib.hid (HR34.out.keep hb5); have HR45 := Lib.hid (HR4.out.keep hb5); have HR5 := Lib.hid hr5; clear hb5 hr5
  refine Lib.hid ?_
  go_wp2_with fail
  go_loopw [107] (fun iv wr => ∃ j : Nat, j ≤ n2 ∧ iv = .int .i64 (j : Int) ∧ Below w5.heap.size w5 wr) (fun iv _ => n2 - (intOf iv).toNat)
  case atStart => exact ⟨0, Nat.zero_le _, rfl, Below.refl _ _⟩
  case round =>
    obtain ⟨j, hj, rfl, hB⟩ := hrel
    by_cases hlt : j < n2
    · have hne2 : L2 ≠ [] := fun e => by have := HN2E.out; rw [e] at this; simp at this; omega
      have hne3 : L3 ≠ [] := fun e => by have := HN3.out; rw [e, HN2E.out] at this; simp at this; omega
      obtain ⟨b4, o4, ha4, hat4⟩ := (HR45.out.keep hB).at hne2
      obtain ⟨b5, o5, ha5, hat5⟩ := (HR5.out.keep hB).at hne3
      subst ha4 ha5
      have hjl : j < L2.length := by rw [HN2E.out]; exact hlt
      obtain ⟨d0, d1, d2⟩ := hat4 j hjl wr (Below.refl _ _)
      have hal := (Below.refl wr.heap.size wr).alloc (Nat.le_refl _) (Obj.cells #[.int .i64 (tkD L2 j).k, .string (tkD L2 j).t, .int .i64 (tkD L2 j).a] 49)
      have hf := hat5 (m1 + j) (by rw [HN3.out, HN2E.out]; exact Nat.add_lt_add_left hlt m1)
      rw [HJ3.out j hjl] at hf
      have hta := HATA.out (tkD L2 j) (tkD_mem hjl)
      have hsa := HSA.out
      have hm1b := HM1B.out
      have hn2p := HN2P.out
      unfold shT at hf
      dsimp only at hf
      generalize tkD L2 j = T at *
      obtain ⟨tk, tt, ta⟩ := T
      dsimp only at d0 d1 d2 hf hta
      obtain ⟨z, hz⟩ : ∃ z : Int, z = ta + ((a.size + 1 : Nat) : Int) := ⟨_, rfl⟩
      rw [← hz] at hf
      have v1 : (0 : Int) ≤ ta + ((a.size : Int) + 1) ∧ ta + ((a.size : Int) + 1) < 9223372036854775808 := by clear es q1 q2 q3 q4; omega
      have v2 : (0 : Int) ≤ (j : Int) + 1 ∧ (j : Int) + 1 < 9223372036854775808 := by clear es q1 q2 q3 q4; omega
      have v3 : (0 : Int) ≤ (m1 : Int) + (j : Int) ∧ (m1 : Int) + (j : Int) < 9223372036854775808 := by clear es q1 q2 q3 q4; omega
      have g1 : (j : Int) < (n2 : Int) := by clear es q1 q2 q3 q4; omega
      have g5 : (m1 : Int) + (j : Int) < (m1 : Int) + (n2 : Int) := by clear es q1 q2 q3 q4; omega
      have g0 : (0 : Int) ≤ (j : Int) := Int.natCast_nonneg j
      have g4 := v3.1
      have eb : wrap64 (ta + ((a.size : Int) + 1)) = z := by rw [hz, Int.natCast_add]; exact (wrap_int _ v1.1 v1.2).2
      have ej : wrap64 ((j : Int) + 1) = (j : Int) + 1 := (wrap_int _ v2.1 v2.2).2
      have ei : wrap64 ((m1 : Int) + (j : Int)) = (m1 : Int) + (j : Int) := (wrap_int _ v3.1 v3.2).2
      have eik : IntKind.i64.wrap ((m1 : Int) + (j : Int)) = (m1 : Int) + (j : Int) := (wrap_int _ v3.1 v3.2).1
      clear v1 v2 v3
      have hrun := run_neq_tok ⟨tk, tt, z⟩ ⟨tk, tt, z⟩
      have hself : tkB ⟨tk, tt, z⟩ ⟨tk, tt, z⟩ = true := by unfold tkB; rw [beq_toListBytes]; simp
      rw [hself] at hrun
      dsimp only at hrun
      have hgd := tok_guard
      have HF := Lib.hid hf; have HB := Lib.hid hB; have HJ := Lib.hid hlt; have HZ := Lib.hid hz
      clear hf hB hj hlt hne2 hne3 hat4 hat5 hjl hal hta hsa hm1b hn2p hself hz
      go_wp2_with fail
      have hBA : Below w5.heap.size w5 (wr.alloc (Obj.cells #[.int .i64 tk, .string tt, .int .i64 z] 49)) := HB.out.alloc HB.out.size _
      obtain ⟨f0, f1, f2⟩ := HF.out _ ((Below.refl wr.heap.size wr).alloc (Nat.le_refl _) (Obj.cells #[.int .i64 tk, .string tt, .int .i64 z] 49))
      have x0 : (wr.alloc (Obj.cells #[.int .i64 tk, .string tt, .int .i64 z] 49)).cell? ⟨wr.heap.size, 0, none⟩ = some (.int .i64 tk) := World.cell?_alloc_new _ _ _ _
      have x1 : (wr.alloc (Obj.cells #[.int .i64 tk, .string tt, .int .i64 z] 49)).cell? ⟨wr.heap.size, 1, none⟩ = some (.string tt) := World.cell?_alloc_new _ _ _ _
      have x2 : (wr.alloc (Obj.cells #[.int .i64 tk, .string tt, .int .i64 z] 49)).cell? ⟨wr.heap.size, 2, none⟩ = some (.int .i64 z) := World.cell?_alloc_new _ _ _ _
      generalize wr.alloc (Obj.cells #[.int .i64 tk, .string tt, .int .i64 z] 49) = W1 at *
      have HBA := Lib.hid hBA
      clear hBA d0 d1 d2
      go_quiet (fail)
      go_wp2
      go_roundw
      case rel => exact ⟨j + 1, HJ.out, (by first | exact congrArg (Value.int .i64) (Int.natCast_add j 1).symm | exact congrArg (Value.int .i64) (ej.trans (Int.natCast_add j 1).symm)), below_drewN HBA.out _⟩
      case measure =>
        have hj9 := HJ.out
        first
        | (rw [ej]
           clear ej eb ei eik es q1 q2 q3 q4 hrun
           show n2 - ((j : Int) + 1).toNat < n2 - ((j : Int)).toNat
           omega)
        | (clear ej eb ei eik es q1 q2 q3 q4 hrun
           show n2 - ((j : Int) + 1).toNat < n2 - ((j : Int)).toNat
           omega)
    · obtain rfl : j = n2 := by clear es q1 q2 q3 q4; omega
      have hge : ¬ (j : Int) < (j : Int) := Int.lt_irrefl _
      have hge2 : decide ((j : Int) < (j : Int)) = false := decide_eq_false hge
      have hc3 := (HR35.out).2.1
      have hcc3 := HR35.out.1
      have hcc5 := HR5.out.1
      rw [HM1.out] at hcc3
      rw [HN3.out] at hcc5
      have g6 : (m1 : Int) ≤ (c3 : Int) := by clear es q1 q2 q3 q4; omega
      have g7 : (m1 : Int) ≤ (c5 : Int) := by clear es q1 q2 q3 q4; omega
      obtain ⟨b3, o3, ha3, -⟩ := HR35.out.at HNE1.out
      subst ha3
      obtain ⟨b5, o5, ha5, -⟩ := HR5.out.at HNE3.out
      subst ha5
      have HB8 := Lib.hid (Below.chain HB5.out hB)
      have HR38 := Lib.hid (HR35.out.keep hB); have HR58 := Lib.hid (HR5.out.keep hB)
      clear hB hlt hj hc3 hcc3 hcc5
      obtain ⟨h9a, h9b, h9c⟩ := H9.out
      have KPW := Lib.hid (KP.out wr)
      go_wp2_with (go_at_call 25; refine KPW.out.mono ?_; rintro e w6 ⟨rfl, hb6⟩; refine Hid.out ?_)
      have HB6 := Lib.hid (Below.chain HB8.out hb6)
      have HR36 := Lib.hid (HR38.out.keep hb6); have HR56 := Lib.hid (HR58.out.keep hb6)
      clear hb6 h9a h9b h9c
      refine Lib.hid ?_
      obtain ⟨q3k, q2k, q5k, q1k⟩ := HQ.out
      have hD : Below w.heap.size w w6.drew := HB6.out.drew
      have HR3D := Lib.hid (HR36.out.keep ((Below.refl w6.heap.size w6).drew)); have HR5D := Lib.hid (HR56.out.keep ((Below.refl w6.heap.size w6).drew))
      go_wp2_with fail
      go_region_held3 (fun w' => Below w.heap.size w w') (first | (with_reducible exact hD) | (with_reducible exact hB7) | (with_reducible exact hBW) | (with_reducible exact hB9) | (with_reducible exact hBA) | fail) (first
        | (go_at_call 14; (first | (with_reducible refine (HSAME.out _ _ _ _ _ HR5D.out HR3D.out).mono ?_); rintro e w7 ⟨rfl, hb7⟩; have hB7 := Below.chain hD hb7))
        | (go_at_call 34; (first | (with_reducible refine (KN.out _).mono ?_); rintro e w8 ⟨rfl, h8⟩; subst h8))
        | (go_at_call 16; (first | (with_reducible refine (KW.out _).mono ?_); rintro e w8 ⟨g8, rfl, hr8, hb8⟩; have hBW := Below.chain hB7 hb8))
        | (go_at_call 35; (first | (with_reducible refine (KI.out _ _ _ hr8).mono ?_); rintro e w9 ⟨rfl, hb9⟩; have hB9 := Below.chain hBW hb9))
        | (go_at_call 11; (first | (with_reducible refine (KA.out _ hB9).mono ?_); rintro e wa ⟨rfl, hba⟩; have hBA := Below.chain hB9 hba)))
      all_goals
        have HBA := Lib.hid hBA
        go_wp2
        go_ret
        exact ⟨rfl, HBA.out⟩
end Go.Proofs.YtmogmneaomndeaaDoor
