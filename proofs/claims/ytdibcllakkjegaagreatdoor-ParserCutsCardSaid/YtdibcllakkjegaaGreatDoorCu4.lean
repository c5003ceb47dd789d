import Derived.Test.YtdibcllakkjegaaGreatDoorCut32
import Derived.Test.YtdibcllakkjegaaGreatDoorCu2
import Derived.Test.YtdibcllakkjegaaGreatDoorCu1
import Derived.Test.YtdibcllakkjegaaGreatDoorCu3
import Derived.Test.YtdibcllakkjegaaGreatDoorCut4
import Derived.Test.YtdibcllakkjegaaGreatDoorCut5

set_option linter.unusedVariables false
/-
  The law ParserCuts.
-/
set_option linter.unusedSimpArgs false
set_option linter.unusedVariables false
namespace Go.Proofs.YtdibcllakkjegaaGreatDoor
open Go Go.Proofs Go.RowKit Go.Sort

set_option maxRecDepth 20000 in
set_option maxHeartbeats 4000000 in
theorem lct_big (s : ByteArray) (g1 : decide ((1500 : Int) < (s.size : Int)) = true) (w : World) (h : Env w) :
    Calls Tryz.prog 10 #[.string s] w fun e w' => e = .returned (.bool true) ∧ Below w.heap.size w w' := by
  have HE := Lib.hid h; clear h
  go_enter Tryz.func10, Tryz.ntmps10
  go_wp2_with (go_at_call 12; refine (HE.out.awake (Below.refl _ _)).mono ?_; rintro e w1 ⟨rfl, hb⟩; refine Hid.out ?_)
  have B1 := Lib.hid (Below.chain (Below.refl _ _) hb)
  clear hb
  refine Lib.hid ?_
  go_wp2
  go_ret
  exact ⟨rfl, B1.out⟩
set_option maxRecDepth 20000 in
set_option maxHeartbeats 4000000 in
theorem lct_bad (s : ByteArray) (g1 : decide ((1500 : Int) < (s.size : Int)) = false) (a1 : Int) (c1 : Nat) (hp : pAns 1 s = .error (a1, c1)) (w : World) (h : Env w) :
    Calls Tryz.prog 10 #[.string s] w fun e w' => e = .returned (.bool true) ∧ Below w.heap.size w w' := by
  have HE := Lib.hid h; have HP := Lib.hid hp; clear h hp
  go_enter Tryz.func10, Tryz.ntmps10
  go_wp2_with (go_at_call 27; refine (ent_code HP.out (HE.out.proc (Below.refl _ _) _)).mono ?_; rintro e w1 ⟨hc1, rfl, hb⟩; refine Hid.out ?_)
  have hA : Below w1.heap.size w1 (w1.alloc (Obj.cells #[.int .i64 0, .int .i64 0, .string ⟨#[]⟩, .int .i64 0, .slice none 0 0] 25)) := (Below.refl _ _).alloc (Nat.le_refl _) _
  have B1 := Lib.hid (Below.chain (Below.refl _ _) (Below.chain hb hA))
  have X1_1 := Lib.hid (Bx5.new w1 (.int .i64 0) (.int .i64 0) (.string ⟨#[]⟩) (.int .i64 0) (.slice none 0 0))
  clear hA hb
  obtain ⟨te1, te1'⟩ := err_ne hc1
  refine Lib.hid ?_
  go_wp2_with (go_at_call 12; refine (HE.out.awake B1.out).mono ?_; rintro e w2 ⟨rfl, hb⟩; refine Hid.out ?_)
  have B2 := Lib.hid (Below.chain B1.out hb)
  clear hb
  refine Lib.hid ?_
  go_wp2
  go_ret
  exact ⟨rfl, B2.out⟩
set_option maxRecDepth 20000 in
set_option maxHeartbeats 4000000 in
theorem lct_no (s : ByteArray) (g1 : decide ((1500 : Int) < (s.size : Int)) = false) (x : Syn) (hp : pAns 1 s = .ok x) (v : Tk) (V : List Tk) (t : Tk) (e : Int) (he : (scR s).2.2 = 0) (hV : (scR s).1 = v :: V ++ [t, tE e]) (hq : pAns 1 (s.extract 0 t.a.toNat) = .error (0, 0)) (w : World) (h : Env w) :
    Calls Tryz.prog 10 #[.string s] w fun e w' => e = .returned (.bool true) ∧ Below w.heap.size w w' := by
  have CS : ∀ W, Calls Tryz.prog 28 #[.string s] W fun e w' => ∃ ao c, e = .returned (.tuple #[.slice ao (scR s).1.length c, .int .i64 ((scR s).2.1 : Nat), .int .i64 ((scR s).2.2 : Nat)]) ∧ TRow w' ao c (scR s).1 ∧ Below W.heap.size W w' := fun W => by
    refine (refScan_any s W).mono ?_
    rintro e w' ⟨v, rfl, ho, hb⟩
    obtain ⟨ao, c, rfl, hr⟩ := TRow.of_owns ho
    exact ⟨ao, c, rfl, hr, hb⟩
  obtain ⟨⟨a0, a1⟩, -, -⟩ := cut_toks he (V := v :: V) hV
  have hle : s.size ≤ 65536 := scan_long he
  have hli : (scR s).1.length = (V.length + 1) + 2 := by rw [hV]; simp
  have hlen : (scR s).1.length ≤ 65537 + 1 := by
    obtain ⟨V', e', hV', -, hl⟩ := scan_form hle he
    rw [hV', List.length_append]
    show V'.length + 1 ≤ _
    omega
  have htk : tkD (scR s).1 (V.length + 1) = t := by
    rw [tkD_eq (by omega)]
    simp only [hV]
    rw [List.getElem_append_right (by simp)]
    simp
  have hne : (scR s).1 ≠ [] := by rw [hV]; simp
  have hls : (s.extract 0 t.a.toNat).size = t.a.toNat := by rw [ByteArray.size_extract]; omega
  have ea : ((t.a.toNat : Nat) : Int) = t.a := by omega
  have hrun : ∀ W : World, (Instr.slice 9 (.string s) none (some (.int .i64 t.a)) none).run Tryz.prog W = .ok (.string (s.extract 0 t.a.toNat)) W := fun W => by
    have := run_str_h (P := Tryz.prog) W 9 s Tryz.underlying9 t.a.toNat (by omega)
    rw [ea] at this
    exact this
  have heq : (t.a == ((s.extract 0 t.a.toNat).size : Int)) = true := by rw [beq_iff_eq, hls, ea]
  rw [he] at CS
  generalize (scR s).2.1 = na at CS
  generalize hL : (scR s).1 = L at *
  generalize V.length + 1 = i at *
  rw [hli] at CS hlen
  generalize s.extract 0 t.a.toNat = ls at *
  have b1 : (0 : Int) ≤ (i : Int) ∧ (i : Int) < 9223372036854775808 := by omega
  have b2 : (i : Int) + 2 - 2 = (i : Int) := by omega
  have b3 : ¬ (i : Int) + 2 < 2 := by omega
  have b3' : decide ((i : Int) + 2 < 2) = false := decide_eq_false b3
  have b4 : (i : Int) < (i : Int) + 2 := by omega
  have b5 : (0 : Int) ≤ (i : Int) := b1.1
  have ei : wrap64 ((i : Int) + 2 - 2) = (i : Int) := by rw [b2]; exact (wrapB _ b1.1 b1.2).2
  have eik : IntKind.i64.wrap ((i : Int) + 2 - 2) = (i : Int) := by rw [b2]; exact (wrapB _ b1.1 b1.2).1
  have ei2 : wrap64 (i : Int) = (i : Int) := (wrapB _ b1.1 b1.2).2
  have HB3 := Lib.hid b3; have HB3' := Lib.hid b3'; have HB4 := Lib.hid b4; have HB5 := Lib.hid b5; have HEI := Lib.hid ei; have HEIK := Lib.hid eik; have HEI2 := Lib.hid ei2
  have HE := Lib.hid h; have HP := Lib.hid hp; have KS := Lib.hid CS; have HQ := Lib.hid hq; have HNE := Lib.hid hne; have HLI := Lib.hid hli; have HTK := Lib.hid htk; have HEQ := Lib.hid heq; have HRUN := Lib.hid hrun
  clear h hp CS hq hne hli htk he hV hle hlen hls b1 b2 ea heq hrun a0 a1 b4 b5 ei eik ei2 b3 b3' hL
  go_enter Tryz.func10, Tryz.ntmps10
  go_wp2_with (go_at_call 27; refine (ent_ok HP.out (HE.out.proc (Below.refl _ _) _)).mono ?_; rintro e w1 ⟨k1, a1, t1, n1, o1, l1, c1, q1, hq1, rfl, hb, hx⟩; refine Hid.out ?_)
  have hA : Below w1.heap.size w1 (w1.alloc (Obj.cells #[.int .i64 k1, .int .i64 a1, .string t1, .int .i64 n1, .slice o1 l1 c1] 25)) := (Below.refl _ _).alloc (Nat.le_refl _) _
  have B1 := Lib.hid (Below.chain (Below.refl _ _) (Below.chain hb hA))
  have X1_1 := Lib.hid (Bx5.new w1 (.int .i64 k1) (.int .i64 a1) (.string t1) (.int .i64 n1) (.slice o1 l1 c1))
  have S1_1 := Lib.hid (hx.below hA)
  clear hA hb hx
  refine Lib.hid ?_
  go_wp2_with (go_at_call 28; refine (KS.out _).mono ?_; rintro e w2 ⟨ao, c, rfl, hr, hb⟩; refine Hid.out ?_)
  have B2 := Lib.hid (Below.chain B1.out hb)
  clear hb X1_1 S1_1
  obtain ⟨b3q, o3, ha3, hat⟩ := hr.at HNE.out
  subst ha3
  obtain ⟨d0, d1, d2⟩ := hat i (by rw [HLI.out]; omega) w2 (Below.refl _ _)
  rw [HTK.out] at d0 d1 d2
  clear hat hr
  have b3 := HB3.out; have b3' := HB3'.out; have b4 := HB4.out; have b5 := HB5.out; have ei := HEI.out; have eik := HEIK.out; have ei2 := HEI2.out; have hrun := HRUN.out
  refine Lib.hid ?_
  go_wp2_with (go_at_call 27; refine (ent_code HQ.out (HE.out.proc B2.out _)).mono ?_; rintro e w3 ⟨hc3, rfl, hb⟩; refine Hid.out ?_)
  have hA : Below w3.heap.size w3 (w3.alloc (Obj.cells #[.int .i64 0, .int .i64 0, .string ⟨#[]⟩, .int .i64 0, .slice none 0 0] 25)) := (Below.refl _ _).alloc (Nat.le_refl _) _
  have B3 := Lib.hid (Below.chain B2.out (Below.chain hb hA))
  have X3_3 := Lib.hid (Bx5.new w3 (.int .i64 0) (.int .i64 0) (.string ⟨#[]⟩) (.int .i64 0) (.slice none 0 0))
  clear hA hb
  exact absurd rfl hc3
set_option maxRecDepth 20000 in
set_option maxHeartbeats 4000000 in
theorem lct_good (s : ByteArray) (g1 : decide ((1500 : Int) < (s.size : Int)) = false) (x : Syn) (hp : pAns 1 s = .ok x) (v : Tk) (V : List Tk) (t : Tk) (e : Int) (he : (scR s).2.2 = 0) (hV : (scR s).1 = v :: V ++ [t, tE e]) (hq : pAns 1 (s.extract 0 t.a.toNat) = .error (t.a, 4)) (hq0 : pAns 0 (s.extract 0 t.a.toNat) = .error (t.a, 4)) (w : World) (h : Env w) :
    Calls Tryz.prog 10 #[.string s] w fun e w' => e = .returned (.bool true) ∧ Below w.heap.size w w' := by
  have CS : ∀ W, Calls Tryz.prog 28 #[.string s] W fun e w' => ∃ ao c, e = .returned (.tuple #[.slice ao (scR s).1.length c, .int .i64 ((scR s).2.1 : Nat), .int .i64 ((scR s).2.2 : Nat)]) ∧ TRow w' ao c (scR s).1 ∧ Below W.heap.size W w' := fun W => by
    refine (refScan_any s W).mono ?_
    rintro e w' ⟨v, rfl, ho, hb⟩
    obtain ⟨ao, c, rfl, hr⟩ := TRow.of_owns ho
    exact ⟨ao, c, rfl, hr, hb⟩
  obtain ⟨⟨a0, a1⟩, -, -⟩ := cut_toks he (V := v :: V) hV
  have hle : s.size ≤ 65536 := scan_long he
  have hli : (scR s).1.length = (V.length + 1) + 2 := by rw [hV]; simp
  have hlen : (scR s).1.length ≤ 65537 + 1 := by
    obtain ⟨V', e', hV', -, hl⟩ := scan_form hle he
    rw [hV', List.length_append]
    show V'.length + 1 ≤ _
    omega
  have htk : tkD (scR s).1 (V.length + 1) = t := by
    rw [tkD_eq (by omega)]
    simp only [hV]
    rw [List.getElem_append_right (by simp)]
    simp
  have hne : (scR s).1 ≠ [] := by rw [hV]; simp
  have hls : (s.extract 0 t.a.toNat).size = t.a.toNat := by rw [ByteArray.size_extract]; omega
  have ea : ((t.a.toNat : Nat) : Int) = t.a := by omega
  have hrun : ∀ W : World, (Instr.slice 9 (.string s) none (some (.int .i64 t.a)) none).run Tryz.prog W = .ok (.string (s.extract 0 t.a.toNat)) W := fun W => by
    have := run_str_h (P := Tryz.prog) W 9 s Tryz.underlying9 t.a.toNat (by omega)
    rw [ea] at this
    exact this
  have heq : (t.a == ((s.extract 0 t.a.toNat).size : Int)) = true := by rw [beq_iff_eq, hls, ea]
  rw [he] at CS
  generalize (scR s).2.1 = na at CS
  generalize hL : (scR s).1 = L at *
  generalize V.length + 1 = i at *
  rw [hli] at CS hlen
  generalize s.extract 0 t.a.toNat = ls at *
  have b1 : (0 : Int) ≤ (i : Int) ∧ (i : Int) < 9223372036854775808 := by omega
  have b2 : (i : Int) + 2 - 2 = (i : Int) := by omega
  have b3 : ¬ (i : Int) + 2 < 2 := by omega
  have b3' : decide ((i : Int) + 2 < 2) = false := decide_eq_false b3
  have b4 : (i : Int) < (i : Int) + 2 := by omega
  have b5 : (0 : Int) ≤ (i : Int) := b1.1
  have ei : wrap64 ((i : Int) + 2 - 2) = (i : Int) := by rw [b2]; exact (wrapB _ b1.1 b1.2).2
  have eik : IntKind.i64.wrap ((i : Int) + 2 - 2) = (i : Int) := by rw [b2]; exact (wrapB _ b1.1 b1.2).1
  have ei2 : wrap64 (i : Int) = (i : Int) := (wrapB _ b1.1 b1.2).2
  have HB3 := Lib.hid b3; have HB3' := Lib.hid b3'; have HB4 := Lib.hid b4; have HB5 := Lib.hid b5; have HEI := Lib.hid ei; have HEIK := Lib.hid eik; have HEI2 := Lib.hid ei2
  have HE := Lib.hid h; have HP := Lib.hid hp; have KS := Lib.hid CS; have HQ := Lib.hid hq; have HNE := Lib.hid hne; have HLI := Lib.hid hli; have HTK := Lib.hid htk; have HEQ := Lib.hid heq; have HRUN := Lib.hid hrun
  clear h hp CS hq hne hli htk he hV hle hlen hls b1 b2 ea heq hrun a0 a1 b4 b5 ei eik ei2 b3 b3' hL
  have HQ0 := Lib.hid hq0
  clear hq0
  go_enter Tryz.func10, Tryz.ntmps10
  go_wp2_with (go_at_call 27; refine (ent_ok HP.out (HE.out.proc (Below.refl _ _) _)).mono ?_; rintro e w1 ⟨k1, a1, t1, n1, o1, l1, c1, q1, hq1, rfl, hb, hx⟩; refine Hid.out ?_)
  have hA : Below w1.heap.size w1 (w1.alloc (Obj.cells #[.int .i64 k1, .int .i64 a1, .string t1, .int .i64 n1, .slice o1 l1 c1] 25)) := (Below.refl _ _).alloc (Nat.le_refl _) _
  have B1 := Lib.hid (Below.chain (Below.refl _ _) (Below.chain hb hA))
  have X1_1 := Lib.hid (Bx5.new w1 (.int .i64 k1) (.int .i64 a1) (.string t1) (.int .i64 n1) (.slice o1 l1 c1))
  have S1_1 := Lib.hid (hx.below hA)
  clear hA hb hx
  refine Lib.hid ?_
  go_wp2_with (go_at_call 28; refine (KS.out _).mono ?_; rintro e w2 ⟨ao, c, rfl, hr, hb⟩; refine Hid.out ?_)
  have B2 := Lib.hid (Below.chain B1.out hb)
  clear hb X1_1 S1_1
  obtain ⟨b3q, o3, ha3, hat⟩ := hr.at HNE.out
  subst ha3
  obtain ⟨d0, d1, d2⟩ := hat i (by rw [HLI.out]; omega) w2 (Below.refl _ _)
  rw [HTK.out] at d0 d1 d2
  clear hat hr
  have b3 := HB3.out; have b3' := HB3'.out; have b4 := HB4.out; have b5 := HB5.out; have ei := HEI.out; have eik := HEIK.out; have ei2 := HEI2.out; have hrun := HRUN.out
  refine Lib.hid ?_
  go_wp2_with (go_at_call 27; refine (ent_bad HQ.out (HE.out.proc B2.out _)).mono ?_; rintro e w3 ⟨rfl, hb⟩; refine Hid.out ?_)
  have hA : Below w3.heap.size w3 (w3.alloc (Obj.cells #[.int .i64 0, .int .i64 0, .string ⟨#[]⟩, .int .i64 0, .slice none 0 0] 25)) := (Below.refl _ _).alloc (Nat.le_refl _) _
  have B3 := Lib.hid (Below.chain B2.out (Below.chain hb hA))
  have X3_3 := Lib.hid (Bx5.new w3 (.int .i64 0) (.int .i64 0) (.string ⟨#[]⟩) (.int .i64 0) (.slice none 0 0))
  clear hA hb
  refine Lib.hid ?_
  clear b3 b3' b4 b5 ei eik ei2 hrun d0 d1 d2
  go_wp2_with (go_at_call 13; refine (ent_bad HQ0.out (HE.out.parse B3.out _)).mono ?_; rintro e w4 ⟨rfl, hb⟩; refine Hid.out ?_)
  have hA : Below w4.heap.size w4 (w4.alloc (Obj.cells #[.int .i64 0, .int .i64 0, .string ⟨#[]⟩, .int .i64 0, .slice none 0 0] 25)) := (Below.refl _ _).alloc (Nat.le_refl _) _
  have B4 := Lib.hid (Below.chain B3.out (Below.chain hb hA))
  have X3_4 := Lib.hid (X3_3.out.below (Below.chain hb hA))
  clear X3_3
  have X4_4 := Lib.hid (Bx5.new w4 (.int .i64 0) (.int .i64 0) (.string ⟨#[]⟩) (.int .i64 0) (.slice none 0 0))
  clear hA hb
  refine Lib.hid ?_
  have heq := HEQ.out
  go_wp2_with (go_at_call 12; refine (HE.out.awake B4.out).mono ?_; rintro e w5 ⟨rfl, hb⟩; refine Hid.out ?_)
  have B5 := Lib.hid (Below.chain B4.out hb)
  clear hb
  refine Lib.hid ?_
  go_wp2
  go_ret
  exact ⟨rfl, B5.out⟩
theorem lcuts_walk (s : ByteArray) (w : World) (h : Env w) :
    Calls Tryz.prog 10 #[.string s] w fun e w' => e = .returned (.bool true) ∧ Below w.heap.size w w' := by
  cases g1 : decide ((1500 : Int) < (s.size : Int)) with
  | true => exact lct_big s g1 w h
  | false =>
    rcases pAns_cases 1 s with ⟨x, hp⟩ | ⟨a1, c1, hp⟩
    · obtain ⟨he, -, v, V, t, e, f, xs, hV, hf⟩ := cut_form hp
      rcases cut_proc he hV hf with hq | ⟨hq, hq0⟩
      · exact lct_no s g1 x hp v V t e he hV hq w h
      · exact lct_good s g1 x hp v V t e he hV hq hq0 w h
    · exact lct_bad s g1 a1 c1 hp w h
end Go.Proofs.YtdibcllakkjegaaGreatDoor

