import Derived.Test.YtdibcllakkjegaaGreatDoorCut32
import Derived.Test.YtdibcllakkjegaaGreatDoorSt1

set_option linter.unusedVariables false
/-
  surveyorref09.Size and surveyorlaw09.stands at all trees.
-/
set_option linter.unusedSimpArgs false
set_option linter.unusedVariables false
namespace Go.Proofs.YtdibcllakkjegaaGreatDoor
open Go Go.Proofs Go.RowKit Go.Sort

/-- A row of kids that may be empty. -/
def KidB (lo : Nat) (W : World) (ks : List Syn) (ao : Option Addr) (l c : Nat) : Prop := l = ks.length ∧ ks.length ≤ c ∧ c ≤ maxLen ∧ (ks = [] ∨ ∃ b, ao = some ⟨b, 0, none⟩ ∧ SL lo W ks b c)
theorem kid_rows {lo : Nat} {W : World} {k a n : Int} {t : ByteArray} {ks : List Syn} {v : Value} (h : synAt lo W (.mk k a t n ks) v) : ∃ ao l c, v = .agg #[.int .i64 k, .int .i64 a, .string t, .int .i64 n, .slice ao l c] ∧ KidB lo W ks ao l c := by
  obtain ⟨kv, rfl, hk⟩ := synAt_mk.mp h
  rcases hk with ⟨h1, rfl⟩ | ⟨b, c, rfl, h1, h2, h3, h4, h5⟩
  · obtain rfl := List.length_eq_zero_iff.1 h1
    exact ⟨_, _, _, rfl, rfl, Nat.le_refl _, Nat.zero_le _, .inl rfl⟩
  · exact ⟨_, _, _, rfl, rfl, h1, h2, .inr ⟨b, rfl, h3, h4, h1, h2, h5⟩⟩
theorem KidB.below {lo : Nat} {W W' : World} {ks : List Syn} {ao : Option Addr} {l c : Nat} (h : KidB lo W ks ao l c) (hb : Below W.heap.size W W') : KidB lo W' ks ao l c := by
  obtain ⟨h1, h2, h3, h4⟩ := h
  refine ⟨h1, h2, h3, ?_⟩
  rcases h4 with h4 | ⟨b, e, h4⟩
  · exact .inl h4
  · exact .inr ⟨b, e, h4.below hb⟩
theorem KidB.get {lo : Nat} {W : World} {ks : List Syn} {ao : Option Addr} {l c : Nat} (h : KidB lo W ks ao l c) (i : Nat) (hi : i < ks.length) : ∃ b k a t n o2 l2 c2, ao = some ⟨b, 0, none⟩ ∧
    W.cell? ⟨b, i * 5, none⟩ = some (.int .i64 k) ∧ W.cell? ⟨b, i * 5 + 1, none⟩ = some (.int .i64 a) ∧ W.cell? ⟨b, i * 5 + 2, none⟩ = some (.string t) ∧ W.cell? ⟨b, i * 5 + 3, none⟩ = some (.int .i64 n) ∧ W.cell? ⟨b, i * 5 + 4, none⟩ = some (.slice o2 l2 c2) ∧
    synAt lo W ks[i] (.agg #[.int .i64 k, .int .i64 a, .string t, .int .i64 n, .slice o2 l2 c2]) := by
  obtain ⟨-, -, -, h4⟩ := h
  rcases h4 with h4 | ⟨b, e, h4⟩
  · subst h4; simp at hi
  · obtain ⟨v0, v1, v2, v3, v4, c0, c1, c2, c3, c4, hx⟩ := rowAt_get ks b 0 i hi h4.row
    obtain ⟨k, a, t, n, o2, l2, cc, q, e1, e2, -⟩ := hx.shape
    simp only [Value.agg.injEq, Array.mk.injEq, List.cons.injEq, and_true] at e2
    obtain ⟨rfl, rfl, rfl, rfl, rfl⟩ := e2
    simp only [Nat.zero_add] at c0 c1 c2 c3 c4
    exact ⟨b, k, a, t, n, o2, l2, cc, e, c0, c1, c2, c3, c4, hx⟩
theorem szL_take : ∀ (ks : List Syn) (j : Nat) (h : j < ks.length), szL (ks.take (j + 1)) = szL (ks.take j) + sz ks[j]
  | [], j, h => by simp at h
  | x :: ks, 0, h => by simp [szL]
  | x :: ks, j + 1, h => by
    have := szL_take ks j (by simpa using h)
    simp only [List.take_succ_cons, szL, List.getElem_cons_succ]
    omega
theorem szL_le : ∀ (ks : List Syn) (j : Nat), szL (ks.take j) ≤ szL ks
  | [], j => by simp [szL]
  | x :: ks, 0 => by simp [szL]
  | x :: ks, j + 1 => by
    have := szL_le ks j
    simp only [List.take_succ_cons, szL]
    omega
set_option maxRecDepth 20000 in
set_option maxHeartbeats 4000000 in
theorem size_go (k a n : Int) (t : ByteArray) (ks : List Syn) (ao : Option Addr) (l c lo : Nat) (w : World) (hr : KidB lo w ks ao l c) (hz : szL ks ≤ 1000000)
    (KC : ∀ (i : Nat) (h1 : i < ks.length) (W : World) (v : Value), Below w.heap.size w W → synAt lo W ks[i] v → Calls Tryz.prog 24 #[v] W fun e w' => e = .returned (.int .i64 (sz ks[i] : Nat)) ∧ Below W.heap.size W w') :
    Calls Tryz.prog 24 #[.agg #[.int .i64 k, .int .i64 a, .string t, .int .i64 n, .slice ao l c]] w fun e w' => e = .returned (.int .i64 ((1 + szL ks : Nat) : Int)) ∧ Below w.heap.size w w' := by
  have hA : Below w.heap.size w (w.alloc (Obj.cells #[.int .i64 k, .int .i64 a, .string t, .int .i64 n, .slice ao l c] 25)) := (Below.refl _ _).alloc (Nat.le_refl _) _
  have x1 := Bx5.new w (.int .i64 k) (.int .i64 a) (.string t) (.int .i64 n) (.slice ao l c)
  have hl : l = ks.length := hr.1
  have hlm : l ≤ 9223372036854775807 := by rw [hl]; exact Nat.le_trans hr.2.1 hr.2.2.1
  have HA := Lib.hid hA; have X1 := Lib.hid x1; have HR := Lib.hid hr; have HK := Lib.hid KC; have HL := Lib.hid hl; have HLM := Lib.hid hlm; have HZ := Lib.hid hz
  clear hA x1 hr KC hl hlm hz
  go_enter Tryz.func24, Tryz.ntmps24
  go_wp2_with fail
  go_loopw [3, 4] (fun nv iv wr => ∃ j : Nat, j ≤ l ∧ iv = .int .i64 (j : Int) ∧ nv = .int .i64 (1 + (szL (ks.take j) : Int)) ∧ Below (w.alloc (Obj.cells #[.int .i64 k, .int .i64 a, .string t, .int .i64 n, .slice ao l c] 25)).heap.size (w.alloc (Obj.cells #[.int .i64 k, .int .i64 a, .string t, .int .i64 n, .slice ao l c] 25)) wr) (fun _ iv _ => l - (intOf iv).toNat)
  case atStart => exact ⟨0, Nat.zero_le _, rfl, rfl, Below.refl _ _⟩
  case round =>
    obtain ⟨j, hj, rfl, rfl, hB⟩ := hrel
    have y4 := (X1.out.below hB).c4
    by_cases hlt : j < l
    · have hjL : j < ks.length := by rw [← HL.out]; exact hlt
      have hBw := Below.chain HA.out hB
      obtain ⟨b, kk, ak, tk, nk, ok, lk, ck, eo, f0, f1, f2, f3, f4, hX⟩ := (HR.out.below hBw).get j hjL
      have CS := HK.out j hjL wr _ hBw hX
      have hlm := HLM.out
      have g0 : (0 : Int) ≤ (j : Int) := by omega
      have g1 : (j : Int) < (l : Int) := by omega
      have hst := szL_take ks j hjL
      have hle := szL_le ks j
      have hle2 := szL_le ks (j + 1)
      have hzz := HZ.out
      have b1 : (0 : Int) ≤ 1 + (szL (ks.take j) : Int) + (sz ks[j] : Int) ∧ 1 + (szL (ks.take j) : Int) + (sz ks[j] : Int) < 9223372036854775808 := by omega
      have b2 : (0 : Int) ≤ (j : Int) + 1 ∧ (j : Int) + 1 < 9223372036854775808 := by omega
      have e2 : 1 + (szL (ks.take j) : Int) + (sz ks[j] : Int) = 1 + (szL (ks.take (j + 1)) : Int) := by omega
      have ez : wrap64 (1 + (szL (ks.take j) : Int) + (sz ks[j] : Int)) = 1 + (szL (ks.take (j + 1)) : Int) := by rw [(wrapB _ b1.1 b1.2).2, e2]
      have ej : wrap64 ((j : Int) + 1) = (j : Int) + 1 := (wrapB _ b2.1 b2.2).2
      have eo' := eo
      subst eo'
      have KS := Lib.hid CS; have HJ := Lib.hid hlt; have HB := Lib.hid hB; have EZ := Lib.hid ez
      clear CS hX hBw hB hlt hj hlm hst hle hle2 hzz b1 b2 e2 ez
      go_wp2_with (go_at_call 24; refine KS.out.mono ?_; rintro e w2 ⟨rfl, hb⟩; refine Hid.out ?_)
      have HB2 := Lib.hid (Below.chain HB.out hb)
      clear hb
      refine Lib.hid ?_
      go_wp2
      go_roundw
      case rel => exact ⟨j + 1, HJ.out, congrArg (Value.int .i64) (ej.trans (Int.natCast_add j 1).symm), congrArg (Value.int .i64) EZ.out, HB2.out⟩
      case measure => have := HJ.out; rw [ej]; show l - ((j : Int) + 1).toNat < l - ((j : Int)).toNat; omega
    · obtain rfl : j = l := by omega
      have ge : decide ((j : Int) < (j : Int)) = false := by rw [decide_eq_false_iff_not]; omega
      have ge2 : ¬ (j : Int) < (j : Int) := by omega
      have ht : szL (ks.take j) = szL ks := by rw [HL.out, List.take_length]
      have HT := Lib.hid ht; have HB2 := Lib.hid (Below.chain HA.out hB)
      clear hB hlt hj ht
      go_wp2
      refine bodyPost_ret (by simp [results, Tryz.results24, go_sem] <;> rfl) rfl ?_
      exact ⟨by rw [HT.out], HB2.out⟩
theorem size_any : ∀ (N : Nat) (x : Syn) (lo : Nat) (v : Value) (w : World), SizeOf.sizeOf x < N → sz x ≤ 1000000 → synAt lo w x v → Calls Tryz.prog 24 #[v] w fun e w' => e = .returned (.int .i64 (sz x : Nat)) ∧ Below w.heap.size w w'
  | 0, _, _, _, _, h, _, _ => by omega
  | N + 1, .mk k a t n ks, lo, v, w, hN, hz, hx => by
    obtain ⟨ao, l, c, rfl, hr⟩ := kid_rows hx
    rw [sz] at hz ⊢
    refine size_go k a n t ks ao l c lo w hr (by omega) (fun i h1 W v hb g => ?_)
    refine size_any N _ lo v W (by have := size_kid (k := k) (a := a) (n := n) (t := t) h1; omega) ?_ g
    have h2 := szL_take ks i h1
    have h3 := szL_le ks (i + 1)
    omega
theorem run_str_low {P : Program} (W : World) (t : TypeId) (s : ByteArray) (ht : P.underlying t = some .string) (l : Nat) (h2 : l ≤ s.size) :
    (Instr.slice t (.string s) (some (.int .i64 (l : Int))) none none).run P W = .ok (.string (s.extract l s.size)) W := by
  have g0 : (0 : Int) ≤ (l : Int) := by omega
  have g2 : (l : Int) ≤ (s.size : Int) := by omega
  simp [Instr.slice, run_underlying ht, Instr.sliceBounds, run_sliceBound, sliced, g0, g2]
theorem pre_of {s t : ByteArray} {a : Int} (h : bytes t <+: (bytes s).drop a.toNat) (h0 : 0 ≤ a) : Lib.hasPrefix (s.extract a.toNat s.size).data.toList t.data.toList = true := by
  have e : (s.extract a.toNat s.size).data.toList = (bytes s).drop a.toNat := by
    show bytes (s.extract a.toNat s.size) = _
    rw [extract_drop, bytes_str]
  rw [e]
  exact List.isPrefixOf_iff_prefix.2 h
set_option maxRecDepth 20000 in
set_option maxHeartbeats 4000000 in
theorem st_go4 (s : ByteArray) (a n : Int) (t : ByteArray) (ks : List Syn) (ao : Option Addr) (l c lo : Nat) (w : World) (hr : KidB lo w ks ao l c) (hN : NS s 4 a t) (hs : s.size ≤ 1500)
    (KC : ∀ (i : Nat) (h1 : i < ks.length) (W : World) (v : Value), Below w.heap.size w W → synAt lo W ks[i] v → Calls Tryz.prog 25 #[.string s, v] W fun e w' => e = .returned (.bool true) ∧ Below W.heap.size W w') :
    Calls Tryz.prog 25 #[.string s, .agg #[.int .i64 4, .int .i64 a, .string t, .int .i64 n, .slice ao l c]] w fun e w' => e = .returned (.bool true) ∧ Below w.heap.size w w' := by
  have hA : Below w.heap.size w (w.alloc (Obj.cells #[.int .i64 4, .int .i64 a, .string t, .int .i64 n, .slice ao l c] 25)) := (Below.refl _ _).alloc (Nat.le_refl _) _
  have x1 := Bx5.new w (.int .i64 4) (.int .i64 a) (.string t) (.int .i64 n) (.slice ao l c)
  have hl : l = ks.length := hr.1
  have hlm : l ≤ 9223372036854775807 := by rw [hl]; exact Nat.le_trans hr.2.1 hr.2.2.1
  obtain ⟨⟨a0, a1⟩, q1, q2⟩ := hN
  have ga0 : decide (a < (0 : Int)) = false := by rw [decide_eq_false_iff_not]; omega
  have ga1 : decide ((s.size : Int) < a) = false := by rw [decide_eq_false_iff_not]; omega
  have hpre : bytes t <+: (bytes s).drop a.toNat := (q1 (by decide)).1
  have hp := pre_of hpre a0
  have hat : a.toNat ≤ s.size := by omega
  have ea : ((a.toNat : Nat) : Int) = a := by omega
  have KP : ∀ (d : Nat) (os : Array Obj), Calls Tryz.prog 38 #[.string (s.extract a.toNat s.size), .string t] (grow (redrawn (w.alloc (Obj.cells #[.int .i64 4, .int .i64 a, .string t, .int .i64 n, .slice ao l c] 25)) d) os) fun e w'' => e = .returned (.bool true) ∧ ∃ p : Regrown, w'' = grow (redrawn (w.alloc (Obj.cells #[.int .i64 4, .int .i64 a, .string t, .int .i64 n, .slice ao l c] 25)) p.d) p.os := fun d os => by
    have h := hasPrefix_at (s.extract a.toNat s.size) t (grow (redrawn (w.alloc (Obj.cells #[.int .i64 4, .int .i64 a, .string t, .int .i64 n, .slice ao l c] 25)) d) os)
    rw [hp] at h
    exact h.mono fun _ _ ⟨h1, h2⟩ => ⟨h1, ⟨d, os⟩, h2⟩
  have hrun : ∀ W : World, (Instr.slice 9 (.string s) (some (.int .i64 a)) none none).run Tryz.prog W = .ok (.string (s.extract a.toNat s.size)) W := fun W => by
    have := run_str_low (P := Tryz.prog) W 9 s Tryz.underlying9 a.toNat hat
    rw [ea] at this
    exact this
  have hne : (t.data.toList == []) = false := by
    have := (q1 (by decide)).2
    cases h : t.data.toList with
    | nil => exact absurd h this
    | cons c l => rfl
  have hne2 : (t == (⟨#[]⟩ : ByteArray)) = false := by
    cases hb : (t == (⟨#[]⟩ : ByteArray)) with
    | false => rfl
    | true => exact absurd (by rw [(beq_ba _ _).1 hb]; rfl) (q1 (by decide)).2
  have hne3 : t.toList.isEmpty = false := by
    have h9 : t.toList = t.data.toList := ByteArray.toList_eq t
    rw [h9]
    cases h : t.data.toList with
    | nil => exact absurd h (q1 (by decide)).2
    | cons c l => rfl
  have KP := Lib.hid KP
  clear hpre hp hat ea
  have HA := Lib.hid hA; have X1 := Lib.hid x1; have HR := Lib.hid hr; have HK := Lib.hid KC; have HL := Lib.hid hl; have HLM := Lib.hid hlm
  obtain ⟨z0, z1, z2, z3, z4, -, -⟩ := x1
  clear hA hr KC hl hlm q1 q2 hs
  go_enter Tryz.func25, Tryz.ntmps25
  go_wp2_with fail
  have gz0 := fun d os => cell_regrown z0 d os
  have gz1 := fun d os => cell_regrown z1 d os
  have gz2 := fun d os => cell_regrown z2 d os
  refine wp_region_quiet_below (by kernel_rfl) (by kernel_rfl) ?_
  repeat (quiet_step (first | exact KP.out _ _))
  refine wpQuiet_nil ?_
  intro _ hw'
  obtain ⟨⟨dq, osq⟩, hw''⟩ := hw'
  subst hw''
  have hq1 := below_regrown (w.alloc (Obj.cells #[.int .i64 4, .int .i64 a, .string t, .int .i64 n, .slice ao l c] 25)) dq osq
  have HA1 := Lib.hid (Below.chain HA.out hq1)
  have z4' := (hq1.cell (p := ⟨w.heap.size, 4, none⟩) X1.out.lt).trans z4
  clear gz0 gz1 gz2
  generalize grow (redrawn (w.alloc (Obj.cells #[.int .i64 4, .int .i64 a, .string t, .int .i64 n, .slice ao l c] 25)) dq) osq = W1 at *
  go_wp2_with fail
  go_loopw [54] (fun iv wr => ∃ j : Nat, j ≤ l ∧ iv = .int .i64 (j : Int) ∧ Below W1.heap.size W1 wr) (fun iv _ => l - (intOf iv).toNat)
  case atStart => exact ⟨0, Nat.zero_le _, rfl, Below.refl _ _⟩
  case round =>
    obtain ⟨j, hj, rfl, hB⟩ := hrel
    by_cases hlt : j < l
    · have hjL : j < ks.length := by rw [← HL.out]; exact hlt
      have hBw := Below.chain HA1.out hB
      obtain ⟨b, kk, ak, tk, nk, ok, lk, ck, eo, f0, f1, f2, f3, f4, hX⟩ := (HR.out.below hBw).get j hjL
      have hAB := (Below.refl wr.heap.size wr).alloc (Nat.le_refl _) (Obj.cells #[.int .i64 kk, .int .i64 ak, .string tk, .int .i64 nk, .slice ok lk ck] 25)
      have CS := HK.out j hjL _ _ (Below.chain hBw hAB) (hX.below hAB)
      have hlm := HLM.out
      have g0 : (0 : Int) ≤ (j : Int) := by omega
      have g1 : (j : Int) < (l : Int) := by omega
      have b2 : (0 : Int) ≤ (j : Int) + 1 ∧ (j : Int) + 1 < 9223372036854775808 := by omega
      have ej : wrap64 ((j : Int) + 1) = (j : Int) + 1 := (wrapB _ b2.1 b2.2).2
      have eo' := eo
      subst eo'
      have KS := Lib.hid CS; have HJ := Lib.hid hlt; have HB := Lib.hid (Below.chain hB hAB)
      clear CS hX hBw hB hlt hj hjL hlm b2 hAB z0 z1 z2 z3 z4
      go_wp2_with (go_at_call 25; refine KS.out.mono ?_; rintro e w2 ⟨rfl, hb⟩; refine Hid.out ?_)
      have HB2 := Lib.hid (Below.chain HB.out hb)
      clear hb
      refine Lib.hid ?_
      go_wp2
      go_roundw
      case rel => exact ⟨j + 1, HJ.out, congrArg (Value.int .i64) (ej.trans (Int.natCast_add j 1).symm), HB2.out⟩
      case measure => have := HJ.out; rw [ej]; show l - ((j : Int) + 1).toNat < l - ((j : Int)).toNat; omega
    · obtain rfl : j = l := by omega
      have ge : decide ((j : Int) < (j : Int)) = false := by rw [decide_eq_false_iff_not]; omega
      have ge2 : ¬ (j : Int) < (j : Int) := by omega
      have HB2 := Lib.hid (Below.chain HA1.out hB)
      clear hB hlt hj
      go_wp2
      go_ret
      exact ⟨rfl, HB2.out⟩
set_option maxRecDepth 20000 in
set_option maxHeartbeats 4000000 in
theorem st_go10 (s : ByteArray) (a n : Int) (t : ByteArray) (ks : List Syn) (ao : Option Addr) (l c lo : Nat) (w : World) (hr : KidB lo w ks ao l c) (hN : NS s 10 a t) (hs : s.size ≤ 1500)
    (KC : ∀ (i : Nat) (h1 : i < ks.length) (W : World) (v : Value), Below w.heap.size w W → synAt lo W ks[i] v → Calls Tryz.prog 25 #[.string s, v] W fun e w' => e = .returned (.bool true) ∧ Below W.heap.size W w') :
    Calls Tryz.prog 25 #[.string s, .agg #[.int .i64 10, .int .i64 a, .string t, .int .i64 n, .slice ao l c]] w fun e w' => e = .returned (.bool true) ∧ Below w.heap.size w w' := by
  have hA : Below w.heap.size w (w.alloc (Obj.cells #[.int .i64 10, .int .i64 a, .string t, .int .i64 n, .slice ao l c] 25)) := (Below.refl _ _).alloc (Nat.le_refl _) _
  have x1 := Bx5.new w (.int .i64 10) (.int .i64 a) (.string t) (.int .i64 n) (.slice ao l c)
  have hl : l = ks.length := hr.1
  have hlm : l ≤ 9223372036854775807 := by rw [hl]; exact Nat.le_trans hr.2.1 hr.2.2.1
  obtain ⟨⟨a0, a1⟩, q1, q2⟩ := hN
  have ga0 : decide (a < (0 : Int)) = false := by rw [decide_eq_false_iff_not]; omega
  have ga1 : decide ((s.size : Int) < a) = false := by rw [decide_eq_false_iff_not]; omega
  have hpre : bytes t <+: (bytes s).drop a.toNat := (q1 (by decide)).1
  have hp := pre_of hpre a0
  have hat : a.toNat ≤ s.size := by omega
  have ea : ((a.toNat : Nat) : Int) = a := by omega
  have KP : ∀ (d : Nat) (os : Array Obj), Calls Tryz.prog 38 #[.string (s.extract a.toNat s.size), .string t] (grow (redrawn (w.alloc (Obj.cells #[.int .i64 10, .int .i64 a, .string t, .int .i64 n, .slice ao l c] 25)) d) os) fun e w'' => e = .returned (.bool true) ∧ ∃ p : Regrown, w'' = grow (redrawn (w.alloc (Obj.cells #[.int .i64 10, .int .i64 a, .string t, .int .i64 n, .slice ao l c] 25)) p.d) p.os := fun d os => by
    have h := hasPrefix_at (s.extract a.toNat s.size) t (grow (redrawn (w.alloc (Obj.cells #[.int .i64 10, .int .i64 a, .string t, .int .i64 n, .slice ao l c] 25)) d) os)
    rw [hp] at h
    exact h.mono fun _ _ ⟨h1, h2⟩ => ⟨h1, ⟨d, os⟩, h2⟩
  have hrun : ∀ W : World, (Instr.slice 9 (.string s) (some (.int .i64 a)) none none).run Tryz.prog W = .ok (.string (s.extract a.toNat s.size)) W := fun W => by
    have := run_str_low (P := Tryz.prog) W 9 s Tryz.underlying9 a.toNat hat
    rw [ea] at this
    exact this
  have hne : (t.data.toList == []) = false := by
    have := (q1 (by decide)).2
    cases h : t.data.toList with
    | nil => exact absurd h this
    | cons c l => rfl
  have hne2 : (t == (⟨#[]⟩ : ByteArray)) = false := by
    cases hb : (t == (⟨#[]⟩ : ByteArray)) with
    | false => rfl
    | true => exact absurd (by rw [(beq_ba _ _).1 hb]; rfl) (q1 (by decide)).2
  have hne3 : t.toList.isEmpty = false := by
    have h9 : t.toList = t.data.toList := ByteArray.toList_eq t
    rw [h9]
    cases h : t.data.toList with
    | nil => exact absurd h (q1 (by decide)).2
    | cons c l => rfl
  have KP := Lib.hid KP
  clear hpre hp hat ea
  have HA := Lib.hid hA; have X1 := Lib.hid x1; have HR := Lib.hid hr; have HK := Lib.hid KC; have HL := Lib.hid hl; have HLM := Lib.hid hlm
  obtain ⟨z0, z1, z2, z3, z4, -, -⟩ := x1
  clear hA hr KC hl hlm q1 q2 hs
  go_enter Tryz.func25, Tryz.ntmps25
  go_wp2_with fail
  have gz0 := fun d os => cell_regrown z0 d os
  have gz1 := fun d os => cell_regrown z1 d os
  have gz2 := fun d os => cell_regrown z2 d os
  refine wp_region_quiet_below (by kernel_rfl) (by kernel_rfl) ?_
  repeat (quiet_step (first | exact KP.out _ _))
  refine wpQuiet_nil ?_
  intro _ hw'
  obtain ⟨⟨dq, osq⟩, hw''⟩ := hw'
  subst hw''
  have hq1 := below_regrown (w.alloc (Obj.cells #[.int .i64 10, .int .i64 a, .string t, .int .i64 n, .slice ao l c] 25)) dq osq
  have HA1 := Lib.hid (Below.chain HA.out hq1)
  have z4' := (hq1.cell (p := ⟨w.heap.size, 4, none⟩) X1.out.lt).trans z4
  clear gz0 gz1 gz2
  generalize grow (redrawn (w.alloc (Obj.cells #[.int .i64 10, .int .i64 a, .string t, .int .i64 n, .slice ao l c] 25)) dq) osq = W1 at *
  go_wp2_with fail
  go_loopw [54] (fun iv wr => ∃ j : Nat, j ≤ l ∧ iv = .int .i64 (j : Int) ∧ Below W1.heap.size W1 wr) (fun iv _ => l - (intOf iv).toNat)
  case atStart => exact ⟨0, Nat.zero_le _, rfl, Below.refl _ _⟩
  case round =>
    obtain ⟨j, hj, rfl, hB⟩ := hrel
    by_cases hlt : j < l
    · have hjL : j < ks.length := by rw [← HL.out]; exact hlt
      have hBw := Below.chain HA1.out hB
      obtain ⟨b, kk, ak, tk, nk, ok, lk, ck, eo, f0, f1, f2, f3, f4, hX⟩ := (HR.out.below hBw).get j hjL
      have hAB := (Below.refl wr.heap.size wr).alloc (Nat.le_refl _) (Obj.cells #[.int .i64 kk, .int .i64 ak, .string tk, .int .i64 nk, .slice ok lk ck] 25)
      have CS := HK.out j hjL _ _ (Below.chain hBw hAB) (hX.below hAB)
      have hlm := HLM.out
      have g0 : (0 : Int) ≤ (j : Int) := by omega
      have g1 : (j : Int) < (l : Int) := by omega
      have b2 : (0 : Int) ≤ (j : Int) + 1 ∧ (j : Int) + 1 < 9223372036854775808 := by omega
      have ej : wrap64 ((j : Int) + 1) = (j : Int) + 1 := (wrapB _ b2.1 b2.2).2
      have eo' := eo
      subst eo'
      have KS := Lib.hid CS; have HJ := Lib.hid hlt; have HB := Lib.hid (Below.chain hB hAB)
      clear CS hX hBw hB hlt hj hjL hlm b2 hAB z0 z1 z2 z3 z4
      go_wp2_with (go_at_call 25; refine KS.out.mono ?_; rintro e w2 ⟨rfl, hb⟩; refine Hid.out ?_)
      have HB2 := Lib.hid (Below.chain HB.out hb)
      clear hb
      refine Lib.hid ?_
      go_wp2
      go_roundw
      case rel => exact ⟨j + 1, HJ.out, congrArg (Value.int .i64) (ej.trans (Int.natCast_add j 1).symm), HB2.out⟩
      case measure => have := HJ.out; rw [ej]; show l - ((j : Int) + 1).toNat < l - ((j : Int)).toNat; omega
    · obtain rfl : j = l := by omega
      have ge : decide ((j : Int) < (j : Int)) = false := by rw [decide_eq_false_iff_not]; omega
      have ge2 : ¬ (j : Int) < (j : Int) := by omega
      have HB2 := Lib.hid (Below.chain HA1.out hB)
      clear hB hlt hj
      go_wp2
      go_ret
      exact ⟨rfl, HB2.out⟩
set_option maxRecDepth 20000 in
set_option maxHeartbeats 4000000 in
theorem st_go16 (s : ByteArray) (a n : Int) (t : ByteArray) (ks : List Syn) (ao : Option Addr) (l c lo : Nat) (w : World) (hr : KidB lo w ks ao l c) (hN : NS s 16 a t) (hs : s.size ≤ 1500)
    (KC : ∀ (i : Nat) (h1 : i < ks.length) (W : World) (v : Value), Below w.heap.size w W → synAt lo W ks[i] v → Calls Tryz.prog 25 #[.string s, v] W fun e w' => e = .returned (.bool true) ∧ Below W.heap.size W w') :
    Calls Tryz.prog 25 #[.string s, .agg #[.int .i64 16, .int .i64 a, .string t, .int .i64 n, .slice ao l c]] w fun e w' => e = .returned (.bool true) ∧ Below w.heap.size w w' := by
  have hA : Below w.heap.size w (w.alloc (Obj.cells #[.int .i64 16, .int .i64 a, .string t, .int .i64 n, .slice ao l c] 25)) := (Below.refl _ _).alloc (Nat.le_refl _) _
  have x1 := Bx5.new w (.int .i64 16) (.int .i64 a) (.string t) (.int .i64 n) (.slice ao l c)
  have hl : l = ks.length := hr.1
  have hlm : l ≤ 9223372036854775807 := by rw [hl]; exact Nat.le_trans hr.2.1 hr.2.2.1
  obtain ⟨⟨a0, a1⟩, q1, q2⟩ := hN
  have ga0 : decide (a < (0 : Int)) = false := by rw [decide_eq_false_iff_not]; omega
  have ga1 : decide ((s.size : Int) < a) = false := by rw [decide_eq_false_iff_not]; omega
  have hpre : bytes t <+: (bytes s).drop a.toNat := (q1 (by decide)).1
  have hp := pre_of hpre a0
  have hat : a.toNat ≤ s.size := by omega
  have ea : ((a.toNat : Nat) : Int) = a := by omega
  have KP : ∀ (d : Nat) (os : Array Obj), Calls Tryz.prog 38 #[.string (s.extract a.toNat s.size), .string t] (grow (redrawn (w.alloc (Obj.cells #[.int .i64 16, .int .i64 a, .string t, .int .i64 n, .slice ao l c] 25)) d) os) fun e w'' => e = .returned (.bool true) ∧ ∃ p : Regrown, w'' = grow (redrawn (w.alloc (Obj.cells #[.int .i64 16, .int .i64 a, .string t, .int .i64 n, .slice ao l c] 25)) p.d) p.os := fun d os => by
    have h := hasPrefix_at (s.extract a.toNat s.size) t (grow (redrawn (w.alloc (Obj.cells #[.int .i64 16, .int .i64 a, .string t, .int .i64 n, .slice ao l c] 25)) d) os)
    rw [hp] at h
    exact h.mono fun _ _ ⟨h1, h2⟩ => ⟨h1, ⟨d, os⟩, h2⟩
  have hrun : ∀ W : World, (Instr.slice 9 (.string s) (some (.int .i64 a)) none none).run Tryz.prog W = .ok (.string (s.extract a.toNat s.size)) W := fun W => by
    have := run_str_low (P := Tryz.prog) W 9 s Tryz.underlying9 a.toNat hat
    rw [ea] at this
    exact this
  have hne : (t.data.toList == []) = false := by
    have := (q1 (by decide)).2
    cases h : t.data.toList with
    | nil => exact absurd h this
    | cons c l => rfl
  have hne2 : (t == (⟨#[]⟩ : ByteArray)) = false := by
    cases hb : (t == (⟨#[]⟩ : ByteArray)) with
    | false => rfl
    | true => exact absurd (by rw [(beq_ba _ _).1 hb]; rfl) (q1 (by decide)).2
  have hne3 : t.toList.isEmpty = false := by
    have h9 : t.toList = t.data.toList := ByteArray.toList_eq t
    rw [h9]
    cases h : t.data.toList with
    | nil => exact absurd h (q1 (by decide)).2
    | cons c l => rfl
  have KP := Lib.hid KP
  clear hpre hp hat ea
  have HA := Lib.hid hA; have X1 := Lib.hid x1; have HR := Lib.hid hr; have HK := Lib.hid KC; have HL := Lib.hid hl; have HLM := Lib.hid hlm
  obtain ⟨z0, z1, z2, z3, z4, -, -⟩ := x1
  clear hA hr KC hl hlm q1 q2 hs
  go_enter Tryz.func25, Tryz.ntmps25
  go_wp2_with fail
  have gz0 := fun d os => cell_regrown z0 d os
  have gz1 := fun d os => cell_regrown z1 d os
  have gz2 := fun d os => cell_regrown z2 d os
  refine wp_region_quiet_below (by kernel_rfl) (by kernel_rfl) ?_
  repeat (quiet_step (first | exact KP.out _ _))
  refine wpQuiet_nil ?_
  intro _ hw'
  obtain ⟨⟨dq, osq⟩, hw''⟩ := hw'
  subst hw''
  have hq1 := below_regrown (w.alloc (Obj.cells #[.int .i64 16, .int .i64 a, .string t, .int .i64 n, .slice ao l c] 25)) dq osq
  have HA1 := Lib.hid (Below.chain HA.out hq1)
  have z4' := (hq1.cell (p := ⟨w.heap.size, 4, none⟩) X1.out.lt).trans z4
  clear gz0 gz1 gz2
  generalize grow (redrawn (w.alloc (Obj.cells #[.int .i64 16, .int .i64 a, .string t, .int .i64 n, .slice ao l c] 25)) dq) osq = W1 at *
  go_wp2_with fail
  go_loopw [54] (fun iv wr => ∃ j : Nat, j ≤ l ∧ iv = .int .i64 (j : Int) ∧ Below W1.heap.size W1 wr) (fun iv _ => l - (intOf iv).toNat)
  case atStart => exact ⟨0, Nat.zero_le _, rfl, Below.refl _ _⟩
  case round =>
    obtain ⟨j, hj, rfl, hB⟩ := hrel
    by_cases hlt : j < l
    · have hjL : j < ks.length := by rw [← HL.out]; exact hlt
      have hBw := Below.chain HA1.out hB
      obtain ⟨b, kk, ak, tk, nk, ok, lk, ck, eo, f0, f1, f2, f3, f4, hX⟩ := (HR.out.below hBw).get j hjL
      have hAB := (Below.refl wr.heap.size wr).alloc (Nat.le_refl _) (Obj.cells #[.int .i64 kk, .int .i64 ak, .string tk, .int .i64 nk, .slice ok lk ck] 25)
      have CS := HK.out j hjL _ _ (Below.chain hBw hAB) (hX.below hAB)
      have hlm := HLM.out
      have g0 : (0 : Int) ≤ (j : Int) := by omega
      have g1 : (j : Int) < (l : Int) := by omega
      have b2 : (0 : Int) ≤ (j : Int) + 1 ∧ (j : Int) + 1 < 9223372036854775808 := by omega
      have ej : wrap64 ((j : Int) + 1) = (j : Int) + 1 := (wrapB _ b2.1 b2.2).2
      have eo' := eo
      subst eo'
      have KS := Lib.hid CS; have HJ := Lib.hid hlt; have HB := Lib.hid (Below.chain hB hAB)
      clear CS hX hBw hB hlt hj hjL hlm b2 hAB z0 z1 z2 z3 z4
      go_wp2_with (go_at_call 25; refine KS.out.mono ?_; rintro e w2 ⟨rfl, hb⟩; refine Hid.out ?_)
      have HB2 := Lib.hid (Below.chain HB.out hb)
      clear hb
      refine Lib.hid ?_
      go_wp2
      go_roundw
      case rel => exact ⟨j + 1, HJ.out, congrArg (Value.int .i64) (ej.trans (Int.natCast_add j 1).symm), HB2.out⟩
      case measure => have := HJ.out; rw [ej]; show l - ((j : Int) + 1).toNat < l - ((j : Int)).toNat; omega
    · obtain rfl : j = l := by omega
      have ge : decide ((j : Int) < (j : Int)) = false := by rw [decide_eq_false_iff_not]; omega
      have ge2 : ¬ (j : Int) < (j : Int) := by omega
      have HB2 := Lib.hid (Below.chain HA1.out hB)
      clear hB hlt hj
      go_wp2
      go_ret
      exact ⟨rfl, HB2.out⟩
set_option maxRecDepth 20000 in
set_option maxHeartbeats 4000000 in
theorem st_go17 (s : ByteArray) (a n : Int) (t : ByteArray) (ks : List Syn) (ao : Option Addr) (l c lo : Nat) (w : World) (hr : KidB lo w ks ao l c) (hN : NS s 17 a t) (hs : s.size ≤ 1500)
    (KC : ∀ (i : Nat) (h1 : i < ks.length) (W : World) (v : Value), Below w.heap.size w W → synAt lo W ks[i] v → Calls Tryz.prog 25 #[.string s, v] W fun e w' => e = .returned (.bool true) ∧ Below W.heap.size W w') :
    Calls Tryz.prog 25 #[.string s, .agg #[.int .i64 17, .int .i64 a, .string t, .int .i64 n, .slice ao l c]] w fun e w' => e = .returned (.bool true) ∧ Below w.heap.size w w' := by
  have hA : Below w.heap.size w (w.alloc (Obj.cells #[.int .i64 17, .int .i64 a, .string t, .int .i64 n, .slice ao l c] 25)) := (Below.refl _ _).alloc (Nat.le_refl _) _
  have x1 := Bx5.new w (.int .i64 17) (.int .i64 a) (.string t) (.int .i64 n) (.slice ao l c)
  have hl : l = ks.length := hr.1
  have hlm : l ≤ 9223372036854775807 := by rw [hl]; exact Nat.le_trans hr.2.1 hr.2.2.1
  obtain ⟨⟨a0, a1⟩, q1, q2⟩ := hN
  have ga0 : decide (a < (0 : Int)) = false := by rw [decide_eq_false_iff_not]; omega
  have ga1 : decide ((s.size : Int) < a) = false := by rw [decide_eq_false_iff_not]; omega
  have hpre : bytes t <+: (bytes s).drop a.toNat := (q1 (by decide)).1
  have hp := pre_of hpre a0
  have hat : a.toNat ≤ s.size := by omega
  have ea : ((a.toNat : Nat) : Int) = a := by omega
  have KP : ∀ (d : Nat) (os : Array Obj), Calls Tryz.prog 38 #[.string (s.extract a.toNat s.size), .string t] (grow (redrawn (w.alloc (Obj.cells #[.int .i64 17, .int .i64 a, .string t, .int .i64 n, .slice ao l c] 25)) d) os) fun e w'' => e = .returned (.bool true) ∧ ∃ p : Regrown, w'' = grow (redrawn (w.alloc (Obj.cells #[.int .i64 17, .int .i64 a, .string t, .int .i64 n, .slice ao l c] 25)) p.d) p.os := fun d os => by
    have h := hasPrefix_at (s.extract a.toNat s.size) t (grow (redrawn (w.alloc (Obj.cells #[.int .i64 17, .int .i64 a, .string t, .int .i64 n, .slice ao l c] 25)) d) os)
    rw [hp] at h
    exact h.mono fun _ _ ⟨h1, h2⟩ => ⟨h1, ⟨d, os⟩, h2⟩
  have hrun : ∀ W : World, (Instr.slice 9 (.string s) (some (.int .i64 a)) none none).run Tryz.prog W = .ok (.string (s.extract a.toNat s.size)) W := fun W => by
    have := run_str_low (P := Tryz.prog) W 9 s Tryz.underlying9 a.toNat hat
    rw [ea] at this
    exact this
  have hne : (t.data.toList == []) = false := by
    have := (q1 (by decide)).2
    cases h : t.data.toList with
    | nil => exact absurd h this
    | cons c l => rfl
  have hne2 : (t == (⟨#[]⟩ : ByteArray)) = false := by
    cases hb : (t == (⟨#[]⟩ : ByteArray)) with
    | false => rfl
    | true => exact absurd (by rw [(beq_ba _ _).1 hb]; rfl) (q1 (by decide)).2
  have hne3 : t.toList.isEmpty = false := by
    have h9 : t.toList = t.data.toList := ByteArray.toList_eq t
    rw [h9]
    cases h : t.data.toList with
    | nil => exact absurd h (q1 (by decide)).2
    | cons c l => rfl
  have KP := Lib.hid KP
  clear hpre hp hat ea
  have HA := Lib.hid hA; have X1 := Lib.hid x1; have HR := Lib.hid hr; have HK := Lib.hid KC; have HL := Lib.hid hl; have HLM := Lib.hid hlm
  obtain ⟨z0, z1, z2, z3, z4, -, -⟩ := x1
  clear hA hr KC hl hlm q1 q2 hs
  go_enter Tryz.func25, Tryz.ntmps25
  go_wp2_with fail
  have gz0 := fun d os => cell_regrown z0 d os
  have gz1 := fun d os => cell_regrown z1 d os
  have gz2 := fun d os => cell_regrown z2 d os
  refine wp_region_quiet_below (by kernel_rfl) (by kernel_rfl) ?_
  repeat (quiet_step (first | exact KP.out _ _))
  refine wpQuiet_nil ?_
  intro _ hw'
  obtain ⟨⟨dq, osq⟩, hw''⟩ := hw'
  subst hw''
  have hq1 := below_regrown (w.alloc (Obj.cells #[.int .i64 17, .int .i64 a, .string t, .int .i64 n, .slice ao l c] 25)) dq osq
  have HA1 := Lib.hid (Below.chain HA.out hq1)
  have z4' := (hq1.cell (p := ⟨w.heap.size, 4, none⟩) X1.out.lt).trans z4
  clear gz0 gz1 gz2
  generalize grow (redrawn (w.alloc (Obj.cells #[.int .i64 17, .int .i64 a, .string t, .int .i64 n, .slice ao l c] 25)) dq) osq = W1 at *
  go_wp2_with fail
  go_loopw [54] (fun iv wr => ∃ j : Nat, j ≤ l ∧ iv = .int .i64 (j : Int) ∧ Below W1.heap.size W1 wr) (fun iv _ => l - (intOf iv).toNat)
  case atStart => exact ⟨0, Nat.zero_le _, rfl, Below.refl _ _⟩
  case round =>
    obtain ⟨j, hj, rfl, hB⟩ := hrel
    by_cases hlt : j < l
    · have hjL : j < ks.length := by rw [← HL.out]; exact hlt
      have hBw := Below.chain HA1.out hB
      obtain ⟨b, kk, ak, tk, nk, ok, lk, ck, eo, f0, f1, f2, f3, f4, hX⟩ := (HR.out.below hBw).get j hjL
      have hAB := (Below.refl wr.heap.size wr).alloc (Nat.le_refl _) (Obj.cells #[.int .i64 kk, .int .i64 ak, .string tk, .int .i64 nk, .slice ok lk ck] 25)
      have CS := HK.out j hjL _ _ (Below.chain hBw hAB) (hX.below hAB)
      have hlm := HLM.out
      have g0 : (0 : Int) ≤ (j : Int) := by omega
      have g1 : (j : Int) < (l : Int) := by omega
      have b2 : (0 : Int) ≤ (j : Int) + 1 ∧ (j : Int) + 1 < 9223372036854775808 := by omega
      have ej : wrap64 ((j : Int) + 1) = (j : Int) + 1 := (wrapB _ b2.1 b2.2).2
      have eo' := eo
      subst eo'
      have KS := Lib.hid CS; have HJ := Lib.hid hlt; have HB := Lib.hid (Below.chain hB hAB)
      clear CS hX hBw hB hlt hj hjL hlm b2 hAB z0 z1 z2 z3 z4
      go_wp2_with (go_at_call 25; refine KS.out.mono ?_; rintro e w2 ⟨rfl, hb⟩; refine Hid.out ?_)
      have HB2 := Lib.hid (Below.chain HB.out hb)
      clear hb
      refine Lib.hid ?_
      go_wp2
      go_roundw
      case rel => exact ⟨j + 1, HJ.out, congrArg (Value.int .i64) (ej.trans (Int.natCast_add j 1).symm), HB2.out⟩
      case measure => have := HJ.out; rw [ej]; show l - ((j : Int) + 1).toNat < l - ((j : Int)).toNat; omega
    · obtain rfl : j = l := by omega
      have ge : decide ((j : Int) < (j : Int)) = false := by rw [decide_eq_false_iff_not]; omega
      have ge2 : ¬ (j : Int) < (j : Int) := by omega
      have HB2 := Lib.hid (Below.chain HA1.out hB)
      clear hB hlt hj
      go_wp2
      go_ret
      exact ⟨rfl, HB2.out⟩
set_option maxRecDepth 20000 in
set_option maxHeartbeats 4000000 in
theorem st_go18 (s : ByteArray) (a n : Int) (t : ByteArray) (ks : List Syn) (ao : Option Addr) (l c lo : Nat) (w : World) (hr : KidB lo w ks ao l c) (hN : NS s 18 a t) (hs : s.size ≤ 1500)
    (KC : ∀ (i : Nat) (h1 : i < ks.length) (W : World) (v : Value), Below w.heap.size w W → synAt lo W ks[i] v → Calls Tryz.prog 25 #[.string s, v] W fun e w' => e = .returned (.bool true) ∧ Below W.heap.size W w') :
    Calls Tryz.prog 25 #[.string s, .agg #[.int .i64 18, .int .i64 a, .string t, .int .i64 n, .slice ao l c]] w fun e w' => e = .returned (.bool true) ∧ Below w.heap.size w w' := by
  have hA : Below w.heap.size w (w.alloc (Obj.cells #[.int .i64 18, .int .i64 a, .string t, .int .i64 n, .slice ao l c] 25)) := (Below.refl _ _).alloc (Nat.le_refl _) _
  have x1 := Bx5.new w (.int .i64 18) (.int .i64 a) (.string t) (.int .i64 n) (.slice ao l c)
  have hl : l = ks.length := hr.1
  have hlm : l ≤ 9223372036854775807 := by rw [hl]; exact Nat.le_trans hr.2.1 hr.2.2.1
  obtain ⟨⟨a0, a1⟩, q1, q2⟩ := hN
  have ga0 : decide (a < (0 : Int)) = false := by rw [decide_eq_false_iff_not]; omega
  have ga1 : decide ((s.size : Int) < a) = false := by rw [decide_eq_false_iff_not]; omega
  have hpre : bytes t <+: (bytes s).drop a.toNat := (q1 (by decide)).1
  have hp := pre_of hpre a0
  have hat : a.toNat ≤ s.size := by omega
  have ea : ((a.toNat : Nat) : Int) = a := by omega
  have KP : ∀ (d : Nat) (os : Array Obj), Calls Tryz.prog 38 #[.string (s.extract a.toNat s.size), .string t] (grow (redrawn (w.alloc (Obj.cells #[.int .i64 18, .int .i64 a, .string t, .int .i64 n, .slice ao l c] 25)) d) os) fun e w'' => e = .returned (.bool true) ∧ ∃ p : Regrown, w'' = grow (redrawn (w.alloc (Obj.cells #[.int .i64 18, .int .i64 a, .string t, .int .i64 n, .slice ao l c] 25)) p.d) p.os := fun d os => by
    have h := hasPrefix_at (s.extract a.toNat s.size) t (grow (redrawn (w.alloc (Obj.cells #[.int .i64 18, .int .i64 a, .string t, .int .i64 n, .slice ao l c] 25)) d) os)
    rw [hp] at h
    exact h.mono fun _ _ ⟨h1, h2⟩ => ⟨h1, ⟨d, os⟩, h2⟩
  have hrun : ∀ W : World, (Instr.slice 9 (.string s) (some (.int .i64 a)) none none).run Tryz.prog W = .ok (.string (s.extract a.toNat s.size)) W := fun W => by
    have := run_str_low (P := Tryz.prog) W 9 s Tryz.underlying9 a.toNat hat
    rw [ea] at this
    exact this
  have hne : (t.data.toList == []) = false := by
    have := (q1 (by decide)).2
    cases h : t.data.toList with
    | nil => exact absurd h this
    | cons c l => rfl
  have hne2 : (t == (⟨#[]⟩ : ByteArray)) = false := by
    cases hb : (t == (⟨#[]⟩ : ByteArray)) with
    | false => rfl
    | true => exact absurd (by rw [(beq_ba _ _).1 hb]; rfl) (q1 (by decide)).2
  have hne3 : t.toList.isEmpty = false := by
    have h9 : t.toList = t.data.toList := ByteArray.toList_eq t
    rw [h9]
    cases h : t.data.toList with
    | nil => exact absurd h (q1 (by decide)).2
    | cons c l => rfl
  have KP := Lib.hid KP
  clear hpre hp hat ea
  have HA := Lib.hid hA; have X1 := Lib.hid x1; have HR := Lib.hid hr; have HK := Lib.hid KC; have HL := Lib.hid hl; have HLM := Lib.hid hlm
  obtain ⟨z0, z1, z2, z3, z4, -, -⟩ := x1
  clear hA hr KC hl hlm q1 q2 hs
  go_enter Tryz.func25, Tryz.ntmps25
  go_wp2_with fail
  have gz0 := fun d os => cell_regrown z0 d os
  have gz1 := fun d os => cell_regrown z1 d os
  have gz2 := fun d os => cell_regrown z2 d os
  refine wp_region_quiet_below (by kernel_rfl) (by kernel_rfl) ?_
  repeat (quiet_step (first | exact KP.out _ _))
  refine wpQuiet_nil ?_
  intro _ hw'
  obtain ⟨⟨dq, osq⟩, hw''⟩ := hw'
  subst hw''
  have hq1 := below_regrown (w.alloc (Obj.cells #[.int .i64 18, .int .i64 a, .string t, .int .i64 n, .slice ao l c] 25)) dq osq
  have HA1 := Lib.hid (Below.chain HA.out hq1)
  have z4' := (hq1.cell (p := ⟨w.heap.size, 4, none⟩) X1.out.lt).trans z4
  clear gz0 gz1 gz2
  generalize grow (redrawn (w.alloc (Obj.cells #[.int .i64 18, .int .i64 a, .string t, .int .i64 n, .slice ao l c] 25)) dq) osq = W1 at *
  go_wp2_with fail
  go_loopw [54] (fun iv wr => ∃ j : Nat, j ≤ l ∧ iv = .int .i64 (j : Int) ∧ Below W1.heap.size W1 wr) (fun iv _ => l - (intOf iv).toNat)
  case atStart => exact ⟨0, Nat.zero_le _, rfl, Below.refl _ _⟩
  case round =>
    obtain ⟨j, hj, rfl, hB⟩ := hrel
    by_cases hlt : j < l
    · have hjL : j < ks.length := by rw [← HL.out]; exact hlt
      have hBw := Below.chain HA1.out hB
      obtain ⟨b, kk, ak, tk, nk, ok, lk, ck, eo, f0, f1, f2, f3, f4, hX⟩ := (HR.out.below hBw).get j hjL
      have hAB := (Below.refl wr.heap.size wr).alloc (Nat.le_refl _) (Obj.cells #[.int .i64 kk, .int .i64 ak, .string tk, .int .i64 nk, .slice ok lk ck] 25)
      have CS := HK.out j hjL _ _ (Below.chain hBw hAB) (hX.below hAB)
      have hlm := HLM.out
      have g0 : (0 : Int) ≤ (j : Int) := by omega
      have g1 : (j : Int) < (l : Int) := by omega
      have b2 : (0 : Int) ≤ (j : Int) + 1 ∧ (j : Int) + 1 < 9223372036854775808 := by omega
      have ej : wrap64 ((j : Int) + 1) = (j : Int) + 1 := (wrapB _ b2.1 b2.2).2
      have eo' := eo
      subst eo'
      have KS := Lib.hid CS; have HJ := Lib.hid hlt; have HB := Lib.hid (Below.chain hB hAB)
      clear CS hX hBw hB hlt hj hjL hlm b2 hAB z0 z1 z2 z3 z4
      go_wp2_with (go_at_call 25; refine KS.out.mono ?_; rintro e w2 ⟨rfl, hb⟩; refine Hid.out ?_)
      have HB2 := Lib.hid (Below.chain HB.out hb)
      clear hb
      refine Lib.hid ?_
      go_wp2
      go_roundw
      case rel => exact ⟨j + 1, HJ.out, congrArg (Value.int .i64) (ej.trans (Int.natCast_add j 1).symm), HB2.out⟩
      case measure => have := HJ.out; rw [ej]; show l - ((j : Int) + 1).toNat < l - ((j : Int)).toNat; omega
    · obtain rfl : j = l := by omega
      have ge : decide ((j : Int) < (j : Int)) = false := by rw [decide_eq_false_iff_not]; omega
      have ge2 : ¬ (j : Int) < (j : Int) := by omega
      have HB2 := Lib.hid (Below.chain HA1.out hB)
      clear hB hlt hj
      go_wp2
      go_ret
      exact ⟨rfl, HB2.out⟩
set_option maxRecDepth 20000 in
set_option maxHeartbeats 4000000 in
theorem st_go19 (s : ByteArray) (a n : Int) (t : ByteArray) (ks : List Syn) (ao : Option Addr) (l c lo : Nat) (w : World) (hr : KidB lo w ks ao l c) (hN : NS s 19 a t) (hs : s.size ≤ 1500)
    (KC : ∀ (i : Nat) (h1 : i < ks.length) (W : World) (v : Value), Below w.heap.size w W → synAt lo W ks[i] v → Calls Tryz.prog 25 #[.string s, v] W fun e w' => e = .returned (.bool true) ∧ Below W.heap.size W w') :
    Calls Tryz.prog 25 #[.string s, .agg #[.int .i64 19, .int .i64 a, .string t, .int .i64 n, .slice ao l c]] w fun e w' => e = .returned (.bool true) ∧ Below w.heap.size w w' := by
  have hA : Below w.heap.size w (w.alloc (Obj.cells #[.int .i64 19, .int .i64 a, .string t, .int .i64 n, .slice ao l c] 25)) := (Below.refl _ _).alloc (Nat.le_refl _) _
  have x1 := Bx5.new w (.int .i64 19) (.int .i64 a) (.string t) (.int .i64 n) (.slice ao l c)
  have hl : l = ks.length := hr.1
  have hlm : l ≤ 9223372036854775807 := by rw [hl]; exact Nat.le_trans hr.2.1 hr.2.2.1
  obtain ⟨⟨a0, a1⟩, q1, q2⟩ := hN
  have ga0 : decide (a < (0 : Int)) = false := by rw [decide_eq_false_iff_not]; omega
  have ga1 : decide ((s.size : Int) < a) = false := by rw [decide_eq_false_iff_not]; omega
  have hpre : bytes t <+: (bytes s).drop a.toNat := (q1 (by decide)).1
  have hp := pre_of hpre a0
  have hat : a.toNat ≤ s.size := by omega
  have ea : ((a.toNat : Nat) : Int) = a := by omega
  have KP : ∀ (d : Nat) (os : Array Obj), Calls Tryz.prog 38 #[.string (s.extract a.toNat s.size), .string t] (grow (redrawn (w.alloc (Obj.cells #[.int .i64 19, .int .i64 a, .string t, .int .i64 n, .slice ao l c] 25)) d) os) fun e w'' => e = .returned (.bool true) ∧ ∃ p : Regrown, w'' = grow (redrawn (w.alloc (Obj.cells #[.int .i64 19, .int .i64 a, .string t, .int .i64 n, .slice ao l c] 25)) p.d) p.os := fun d os => by
    have h := hasPrefix_at (s.extract a.toNat s.size) t (grow (redrawn (w.alloc (Obj.cells #[.int .i64 19, .int .i64 a, .string t, .int .i64 n, .slice ao l c] 25)) d) os)
    rw [hp] at h
    exact h.mono fun _ _ ⟨h1, h2⟩ => ⟨h1, ⟨d, os⟩, h2⟩
  have hrun : ∀ W : World, (Instr.slice 9 (.string s) (some (.int .i64 a)) none none).run Tryz.prog W = .ok (.string (s.extract a.toNat s.size)) W := fun W => by
    have := run_str_low (P := Tryz.prog) W 9 s Tryz.underlying9 a.toNat hat
    rw [ea] at this
    exact this
  have hne : (t.data.toList == []) = false := by
    have := (q1 (by decide)).2
    cases h : t.data.toList with
    | nil => exact absurd h this
    | cons c l => rfl
  have hne2 : (t == (⟨#[]⟩ : ByteArray)) = false := by
    cases hb : (t == (⟨#[]⟩ : ByteArray)) with
    | false => rfl
    | true => exact absurd (by rw [(beq_ba _ _).1 hb]; rfl) (q1 (by decide)).2
  have hne3 : t.toList.isEmpty = false := by
    have h9 : t.toList = t.data.toList := ByteArray.toList_eq t
    rw [h9]
    cases h : t.data.toList with
    | nil => exact absurd h (q1 (by decide)).2
    | cons c l => rfl
  have KP := Lib.hid KP
  clear hpre hp hat ea
  have HA := Lib.hid hA; have X1 := Lib.hid x1; have HR := Lib.hid hr; have HK := Lib.hid KC; have HL := Lib.hid hl; have HLM := Lib.hid hlm
  obtain ⟨z0, z1, z2, z3, z4, -, -⟩ := x1
  clear hA hr KC hl hlm q1 q2 hs
  go_enter Tryz.func25, Tryz.ntmps25
  go_wp2_with fail
  have gz0 := fun d os => cell_regrown z0 d os
  have gz1 := fun d os => cell_regrown z1 d os
  have gz2 := fun d os => cell_regrown z2 d os
  refine wp_region_quiet_below (by kernel_rfl) (by kernel_rfl) ?_
  repeat (quiet_step (first | exact KP.out _ _))
  refine wpQuiet_nil ?_
  intro _ hw'
  obtain ⟨⟨dq, osq⟩, hw''⟩ := hw'
  subst hw''
  have hq1 := below_regrown (w.alloc (Obj.cells #[.int .i64 19, .int .i64 a, .string t, .int .i64 n, .slice ao l c] 25)) dq osq
  have HA1 := Lib.hid (Below.chain HA.out hq1)
  have z4' := (hq1.cell (p := ⟨w.heap.size, 4, none⟩) X1.out.lt).trans z4
  clear gz0 gz1 gz2
  generalize grow (redrawn (w.alloc (Obj.cells #[.int .i64 19, .int .i64 a, .string t, .int .i64 n, .slice ao l c] 25)) dq) osq = W1 at *
  go_wp2_with fail
  go_loopw [54] (fun iv wr => ∃ j : Nat, j ≤ l ∧ iv = .int .i64 (j : Int) ∧ Below W1.heap.size W1 wr) (fun iv _ => l - (intOf iv).toNat)
  case atStart => exact ⟨0, Nat.zero_le _, rfl, Below.refl _ _⟩
  case round =>
    obtain ⟨j, hj, rfl, hB⟩ := hrel
    by_cases hlt : j < l
    · have hjL : j < ks.length := by rw [← HL.out]; exact hlt
      have hBw := Below.chain HA1.out hB
      obtain ⟨b, kk, ak, tk, nk, ok, lk, ck, eo, f0, f1, f2, f3, f4, hX⟩ := (HR.out.below hBw).get j hjL
      have hAB := (Below.refl wr.heap.size wr).alloc (Nat.le_refl _) (Obj.cells #[.int .i64 kk, .int .i64 ak, .string tk, .int .i64 nk, .slice ok lk ck] 25)
      have CS := HK.out j hjL _ _ (Below.chain hBw hAB) (hX.below hAB)
      have hlm := HLM.out
      have g0 : (0 : Int) ≤ (j : Int) := by omega
      have g1 : (j : Int) < (l : Int) := by omega
      have b2 : (0 : Int) ≤ (j : Int) + 1 ∧ (j : Int) + 1 < 9223372036854775808 := by omega
      have ej : wrap64 ((j : Int) + 1) = (j : Int) + 1 := (wrapB _ b2.1 b2.2).2
      have eo' := eo
      subst eo'
      have KS := Lib.hid CS; have HJ := Lib.hid hlt; have HB := Lib.hid (Below.chain hB hAB)
      clear CS hX hBw hB hlt hj hjL hlm b2 hAB z0 z1 z2 z3 z4
      go_wp2_with (go_at_call 25; refine KS.out.mono ?_; rintro e w2 ⟨rfl, hb⟩; refine Hid.out ?_)
      have HB2 := Lib.hid (Below.chain HB.out hb)
      clear hb
      refine Lib.hid ?_
      go_wp2
      go_roundw
      case rel => exact ⟨j + 1, HJ.out, congrArg (Value.int .i64) (ej.trans (Int.natCast_add j 1).symm), HB2.out⟩
      case measure => have := HJ.out; rw [ej]; show l - ((j : Int) + 1).toNat < l - ((j : Int)).toNat; omega
    · obtain rfl : j = l := by omega
      have ge : decide ((j : Int) < (j : Int)) = false := by rw [decide_eq_false_iff_not]; omega
      have ge2 : ¬ (j : Int) < (j : Int) := by omega
      have HB2 := Lib.hid (Below.chain HA1.out hB)
      clear hB hlt hj
      go_wp2
      go_ret
      exact ⟨rfl, HB2.out⟩
set_option maxRecDepth 20000 in
set_option maxHeartbeats 4000000 in
theorem st_go20 (s : ByteArray) (a n : Int) (t : ByteArray) (ks : List Syn) (ao : Option Addr) (l c lo : Nat) (w : World) (hr : KidB lo w ks ao l c) (hN : NS s 20 a t) (hs : s.size ≤ 1500)
    (KC : ∀ (i : Nat) (h1 : i < ks.length) (W : World) (v : Value), Below w.heap.size w W → synAt lo W ks[i] v → Calls Tryz.prog 25 #[.string s, v] W fun e w' => e = .returned (.bool true) ∧ Below W.heap.size W w') :
    Calls Tryz.prog 25 #[.string s, .agg #[.int .i64 20, .int .i64 a, .string t, .int .i64 n, .slice ao l c]] w fun e w' => e = .returned (.bool true) ∧ Below w.heap.size w w' := by
  have hA : Below w.heap.size w (w.alloc (Obj.cells #[.int .i64 20, .int .i64 a, .string t, .int .i64 n, .slice ao l c] 25)) := (Below.refl _ _).alloc (Nat.le_refl _) _
  have x1 := Bx5.new w (.int .i64 20) (.int .i64 a) (.string t) (.int .i64 n) (.slice ao l c)
  have hl : l = ks.length := hr.1
  have hlm : l ≤ 9223372036854775807 := by rw [hl]; exact Nat.le_trans hr.2.1 hr.2.2.1
  obtain ⟨⟨a0, a1⟩, q1, q2⟩ := hN
  have ga0 : decide (a < (0 : Int)) = false := by rw [decide_eq_false_iff_not]; omega
  have ga1 : decide ((s.size : Int) < a) = false := by rw [decide_eq_false_iff_not]; omega
  have hpre : bytes t <+: (bytes s).drop a.toNat := (q1 (by decide)).1
  have hp := pre_of hpre a0
  have hat : a.toNat ≤ s.size := by omega
  have ea : ((a.toNat : Nat) : Int) = a := by omega
  have KP : ∀ (d : Nat) (os : Array Obj), Calls Tryz.prog 38 #[.string (s.extract a.toNat s.size), .string t] (grow (redrawn (w.alloc (Obj.cells #[.int .i64 20, .int .i64 a, .string t, .int .i64 n, .slice ao l c] 25)) d) os) fun e w'' => e = .returned (.bool true) ∧ ∃ p : Regrown, w'' = grow (redrawn (w.alloc (Obj.cells #[.int .i64 20, .int .i64 a, .string t, .int .i64 n, .slice ao l c] 25)) p.d) p.os := fun d os => by
    have h := hasPrefix_at (s.extract a.toNat s.size) t (grow (redrawn (w.alloc (Obj.cells #[.int .i64 20, .int .i64 a, .string t, .int .i64 n, .slice ao l c] 25)) d) os)
    rw [hp] at h
    exact h.mono fun _ _ ⟨h1, h2⟩ => ⟨h1, ⟨d, os⟩, h2⟩
  have hrun : ∀ W : World, (Instr.slice 9 (.string s) (some (.int .i64 a)) none none).run Tryz.prog W = .ok (.string (s.extract a.toNat s.size)) W := fun W => by
    have := run_str_low (P := Tryz.prog) W 9 s Tryz.underlying9 a.toNat hat
    rw [ea] at this
    exact this
  have hne : (t.data.toList == []) = false := by
    have := (q1 (by decide)).2
    cases h : t.data.toList with
    | nil => exact absurd h this
    | cons c l => rfl
  have hne2 : (t == (⟨#[]⟩ : ByteArray)) = false := by
    cases hb : (t == (⟨#[]⟩ : ByteArray)) with
    | false => rfl
    | true => exact absurd (by rw [(beq_ba _ _).1 hb]; rfl) (q1 (by decide)).2
  have hne3 : t.toList.isEmpty = false := by
    have h9 : t.toList = t.data.toList := ByteArray.toList_eq t
    rw [h9]
    cases h : t.data.toList with
    | nil => exact absurd h (q1 (by decide)).2
    | cons c l => rfl
  have KP := Lib.hid KP
  clear hpre hp hat ea
  have HA := Lib.hid hA; have X1 := Lib.hid x1; have HR := Lib.hid hr; have HK := Lib.hid KC; have HL := Lib.hid hl; have HLM := Lib.hid hlm
  obtain ⟨z0, z1, z2, z3, z4, -, -⟩ := x1
  clear hA hr KC hl hlm q1 q2 hs
  go_enter Tryz.func25, Tryz.ntmps25
  go_wp2_with fail
  have gz0 := fun d os => cell_regrown z0 d os
  have gz1 := fun d os => cell_regrown z1 d os
  have gz2 := fun d os => cell_regrown z2 d os
  refine wp_region_quiet_below (by kernel_rfl) (by kernel_rfl) ?_
  repeat (quiet_step (first | exact KP.out _ _))
  refine wpQuiet_nil ?_
  intro _ hw'
  obtain ⟨⟨dq, osq⟩, hw''⟩ := hw'
  subst hw''
  have hq1 := below_regrown (w.alloc (Obj.cells #[.int .i64 20, .int .i64 a, .string t, .int .i64 n, .slice ao l c] 25)) dq osq
  have HA1 := Lib.hid (Below.chain HA.out hq1)
  have z4' := (hq1.cell (p := ⟨w.heap.size, 4, none⟩) X1.out.lt).trans z4
  clear gz0 gz1 gz2
  generalize grow (redrawn (w.alloc (Obj.cells #[.int .i64 20, .int .i64 a, .string t, .int .i64 n, .slice ao l c] 25)) dq) osq = W1 at *
  go_wp2_with fail
  go_loopw [54] (fun iv wr => ∃ j : Nat, j ≤ l ∧ iv = .int .i64 (j : Int) ∧ Below W1.heap.size W1 wr) (fun iv _ => l - (intOf iv).toNat)
  case atStart => exact ⟨0, Nat.zero_le _, rfl, Below.refl _ _⟩
  case round =>
    obtain ⟨j, hj, rfl, hB⟩ := hrel
    by_cases hlt : j < l
    · have hjL : j < ks.length := by rw [← HL.out]; exact hlt
      have hBw := Below.chain HA1.out hB
      obtain ⟨b, kk, ak, tk, nk, ok, lk, ck, eo, f0, f1, f2, f3, f4, hX⟩ := (HR.out.below hBw).get j hjL
      have hAB := (Below.refl wr.heap.size wr).alloc (Nat.le_refl _) (Obj.cells #[.int .i64 kk, .int .i64 ak, .string tk, .int .i64 nk, .slice ok lk ck] 25)
      have CS := HK.out j hjL _ _ (Below.chain hBw hAB) (hX.below hAB)
      have hlm := HLM.out
      have g0 : (0 : Int) ≤ (j : Int) := by omega
      have g1 : (j : Int) < (l : Int) := by omega
      have b2 : (0 : Int) ≤ (j : Int) + 1 ∧ (j : Int) + 1 < 9223372036854775808 := by omega
      have ej : wrap64 ((j : Int) + 1) = (j : Int) + 1 := (wrapB _ b2.1 b2.2).2
      have eo' := eo
      subst eo'
      have KS := Lib.hid CS; have HJ := Lib.hid hlt; have HB := Lib.hid (Below.chain hB hAB)
      clear CS hX hBw hB hlt hj hjL hlm b2 hAB z0 z1 z2 z3 z4
      go_wp2_with (go_at_call 25; refine KS.out.mono ?_; rintro e w2 ⟨rfl, hb⟩; refine Hid.out ?_)
      have HB2 := Lib.hid (Below.chain HB.out hb)
      clear hb
      refine Lib.hid ?_
      go_wp2
      go_roundw
      case rel => exact ⟨j + 1, HJ.out, congrArg (Value.int .i64) (ej.trans (Int.natCast_add j 1).symm), HB2.out⟩
      case measure => have := HJ.out; rw [ej]; show l - ((j : Int) + 1).toNat < l - ((j : Int)).toNat; omega
    · obtain rfl : j = l := by omega
      have ge : decide ((j : Int) < (j : Int)) = false := by rw [decide_eq_false_iff_not]; omega
      have ge2 : ¬ (j : Int) < (j : Int) := by omega
      have HB2 := Lib.hid (Below.chain HA1.out hB)
      clear hB hlt hj
      go_wp2
      go_ret
      exact ⟨rfl, HB2.out⟩
set_option maxRecDepth 20000 in
set_option maxHeartbeats 4000000 in
theorem st_go23 (s : ByteArray) (a n : Int) (t : ByteArray) (ks : List Syn) (ao : Option Addr) (l c lo : Nat) (w : World) (hr : KidB lo w ks ao l c) (hN : NS s 23 a t) (hs : s.size ≤ 1500)
    (KC : ∀ (i : Nat) (h1 : i < ks.length) (W : World) (v : Value), Below w.heap.size w W → synAt lo W ks[i] v → Calls Tryz.prog 25 #[.string s, v] W fun e w' => e = .returned (.bool true) ∧ Below W.heap.size W w') :
    Calls Tryz.prog 25 #[.string s, .agg #[.int .i64 23, .int .i64 a, .string t, .int .i64 n, .slice ao l c]] w fun e w' => e = .returned (.bool true) ∧ Below w.heap.size w w' := by
  have hA : Below w.heap.size w (w.alloc (Obj.cells #[.int .i64 23, .int .i64 a, .string t, .int .i64 n, .slice ao l c] 25)) := (Below.refl _ _).alloc (Nat.le_refl _) _
  have x1 := Bx5.new w (.int .i64 23) (.int .i64 a) (.string t) (.int .i64 n) (.slice ao l c)
  have hl : l = ks.length := hr.1
  have hlm : l ≤ 9223372036854775807 := by rw [hl]; exact Nat.le_trans hr.2.1 hr.2.2.1
  obtain ⟨⟨a0, a1⟩, q1, q2⟩ := hN
  have ga0 : decide (a < (0 : Int)) = false := by rw [decide_eq_false_iff_not]; omega
  have ga1 : decide ((s.size : Int) < a) = false := by rw [decide_eq_false_iff_not]; omega
  have hpre : bytes t <+: (bytes s).drop a.toNat := (q1 (by decide)).1
  have hp := pre_of hpre a0
  have hat : a.toNat ≤ s.size := by omega
  have ea : ((a.toNat : Nat) : Int) = a := by omega
  have KP : ∀ (d : Nat) (os : Array Obj), Calls Tryz.prog 38 #[.string (s.extract a.toNat s.size), .string t] (grow (redrawn (w.alloc (Obj.cells #[.int .i64 23, .int .i64 a, .string t, .int .i64 n, .slice ao l c] 25)) d) os) fun e w'' => e = .returned (.bool true) ∧ ∃ p : Regrown, w'' = grow (redrawn (w.alloc (Obj.cells #[.int .i64 23, .int .i64 a, .string t, .int .i64 n, .slice ao l c] 25)) p.d) p.os := fun d os => by
    have h := hasPrefix_at (s.extract a.toNat s.size) t (grow (redrawn (w.alloc (Obj.cells #[.int .i64 23, .int .i64 a, .string t, .int .i64 n, .slice ao l c] 25)) d) os)
    rw [hp] at h
    exact h.mono fun _ _ ⟨h1, h2⟩ => ⟨h1, ⟨d, os⟩, h2⟩
  have hrun : ∀ W : World, (Instr.slice 9 (.string s) (some (.int .i64 a)) none none).run Tryz.prog W = .ok (.string (s.extract a.toNat s.size)) W := fun W => by
    have := run_str_low (P := Tryz.prog) W 9 s Tryz.underlying9 a.toNat hat
    rw [ea] at this
    exact this
  have hne : (t.data.toList == []) = false := by
    have := (q1 (by decide)).2
    cases h : t.data.toList with
    | nil => exact absurd h this
    | cons c l => rfl
  have hne2 : (t == (⟨#[]⟩ : ByteArray)) = false := by
    cases hb : (t == (⟨#[]⟩ : ByteArray)) with
    | false => rfl
    | true => exact absurd (by rw [(beq_ba _ _).1 hb]; rfl) (q1 (by decide)).2
  have hne3 : t.toList.isEmpty = false := by
    have h9 : t.toList = t.data.toList := ByteArray.toList_eq t
    rw [h9]
    cases h : t.data.toList with
    | nil => exact absurd h (q1 (by decide)).2
    | cons c l => rfl
  have KP := Lib.hid KP
  clear hpre hp hat ea
  have HA := Lib.hid hA; have X1 := Lib.hid x1; have HR := Lib.hid hr; have HK := Lib.hid KC; have HL := Lib.hid hl; have HLM := Lib.hid hlm
  obtain ⟨z0, z1, z2, z3, z4, -, -⟩ := x1
  clear hA hr KC hl hlm q1 q2 hs
  go_enter Tryz.func25, Tryz.ntmps25
  go_wp2_with fail
  have gz0 := fun d os => cell_regrown z0 d os
  have gz1 := fun d os => cell_regrown z1 d os
  have gz2 := fun d os => cell_regrown z2 d os
  refine wp_region_quiet_below (by kernel_rfl) (by kernel_rfl) ?_
  repeat (quiet_step (first | exact KP.out _ _))
  refine wpQuiet_nil ?_
  intro _ hw'
  obtain ⟨⟨dq, osq⟩, hw''⟩ := hw'
  subst hw''
  have hq1 := below_regrown (w.alloc (Obj.cells #[.int .i64 23, .int .i64 a, .string t, .int .i64 n, .slice ao l c] 25)) dq osq
  have HA1 := Lib.hid (Below.chain HA.out hq1)
  have z4' := (hq1.cell (p := ⟨w.heap.size, 4, none⟩) X1.out.lt).trans z4
  clear gz0 gz1 gz2
  generalize grow (redrawn (w.alloc (Obj.cells #[.int .i64 23, .int .i64 a, .string t, .int .i64 n, .slice ao l c] 25)) dq) osq = W1 at *
  go_wp2_with fail
  go_loopw [54] (fun iv wr => ∃ j : Nat, j ≤ l ∧ iv = .int .i64 (j : Int) ∧ Below W1.heap.size W1 wr) (fun iv _ => l - (intOf iv).toNat)
  case atStart => exact ⟨0, Nat.zero_le _, rfl, Below.refl _ _⟩
  case round =>
    obtain ⟨j, hj, rfl, hB⟩ := hrel
    by_cases hlt : j < l
    · have hjL : j < ks.length := by rw [← HL.out]; exact hlt
      have hBw := Below.chain HA1.out hB
      obtain ⟨b, kk, ak, tk, nk, ok, lk, ck, eo, f0, f1, f2, f3, f4, hX⟩ := (HR.out.below hBw).get j hjL
      have hAB := (Below.refl wr.heap.size wr).alloc (Nat.le_refl _) (Obj.cells #[.int .i64 kk, .int .i64 ak, .string tk, .int .i64 nk, .slice ok lk ck] 25)
      have CS := HK.out j hjL _ _ (Below.chain hBw hAB) (hX.below hAB)
      have hlm := HLM.out
      have g0 : (0 : Int) ≤ (j : Int) := by omega
      have g1 : (j : Int) < (l : Int) := by omega
      have b2 : (0 : Int) ≤ (j : Int) + 1 ∧ (j : Int) + 1 < 9223372036854775808 := by omega
      have ej : wrap64 ((j : Int) + 1) = (j : Int) + 1 := (wrapB _ b2.1 b2.2).2
      have eo' := eo
      subst eo'
      have KS := Lib.hid CS; have HJ := Lib.hid hlt; have HB := Lib.hid (Below.chain hB hAB)
      clear CS hX hBw hB hlt hj hjL hlm b2 hAB z0 z1 z2 z3 z4
      go_wp2_with (go_at_call 25; refine KS.out.mono ?_; rintro e w2 ⟨rfl, hb⟩; refine Hid.out ?_)
      have HB2 := Lib.hid (Below.chain HB.out hb)
      clear hb
      refine Lib.hid ?_
      go_wp2
      go_roundw
      case rel => exact ⟨j + 1, HJ.out, congrArg (Value.int .i64) (ej.trans (Int.natCast_add j 1).symm), HB2.out⟩
      case measure => have := HJ.out; rw [ej]; show l - ((j : Int) + 1).toNat < l - ((j : Int)).toNat; omega
    · obtain rfl : j = l := by omega
      have ge : decide ((j : Int) < (j : Int)) = false := by rw [decide_eq_false_iff_not]; omega
      have ge2 : ¬ (j : Int) < (j : Int) := by omega
      have HB2 := Lib.hid (Below.chain HA1.out hB)
      clear hB hlt hj
      go_wp2
      go_ret
      exact ⟨rfl, HB2.out⟩
set_option maxRecDepth 20000 in
set_option maxHeartbeats 4000000 in
theorem st_go21 (s : ByteArray) (a n : Int) (t : ByteArray) (ks : List Syn) (ao : Option Addr) (l c lo : Nat) (w : World) (hr : KidB lo w ks ao l c) (hN : NS s 21 a t) (hs : s.size ≤ 1500)
    (KC : ∀ (i : Nat) (h1 : i < ks.length) (W : World) (v : Value), Below w.heap.size w W → synAt lo W ks[i] v → Calls Tryz.prog 25 #[.string s, v] W fun e w' => e = .returned (.bool true) ∧ Below W.heap.size W w') :
    Calls Tryz.prog 25 #[.string s, .agg #[.int .i64 21, .int .i64 a, .string t, .int .i64 n, .slice ao l c]] w fun e w' => e = .returned (.bool true) ∧ Below w.heap.size w w' := by
  have hA : Below w.heap.size w (w.alloc (Obj.cells #[.int .i64 21, .int .i64 a, .string t, .int .i64 n, .slice ao l c] 25)) := (Below.refl _ _).alloc (Nat.le_refl _) _
  have x1 := Bx5.new w (.int .i64 21) (.int .i64 a) (.string t) (.int .i64 n) (.slice ao l c)
  have hl : l = ks.length := hr.1
  have hlm : l ≤ 9223372036854775807 := by rw [hl]; exact Nat.le_trans hr.2.1 hr.2.2.1
  obtain ⟨⟨a0, a1⟩, q1, q2⟩ := hN
  have ga0 : decide (a < (0 : Int)) = false := by rw [decide_eq_false_iff_not]; omega
  have ga1 : decide ((s.size : Int) < a) = false := by rw [decide_eq_false_iff_not]; omega
  have hpre : bytes t <+: (bytes s).drop a.toNat := q2 rfl
  have hp := pre_of hpre a0
  have hat : a.toNat ≤ s.size := by omega
  have ea : ((a.toNat : Nat) : Int) = a := by omega
  have KP : ∀ (d : Nat) (os : Array Obj), Calls Tryz.prog 38 #[.string (s.extract a.toNat s.size), .string t] (grow (redrawn (w.alloc (Obj.cells #[.int .i64 21, .int .i64 a, .string t, .int .i64 n, .slice ao l c] 25)) d) os) fun e w'' => e = .returned (.bool true) ∧ ∃ p : Regrown, w'' = grow (redrawn (w.alloc (Obj.cells #[.int .i64 21, .int .i64 a, .string t, .int .i64 n, .slice ao l c] 25)) p.d) p.os := fun d os => by
    have h := hasPrefix_at (s.extract a.toNat s.size) t (grow (redrawn (w.alloc (Obj.cells #[.int .i64 21, .int .i64 a, .string t, .int .i64 n, .slice ao l c] 25)) d) os)
    rw [hp] at h
    exact h.mono fun _ _ ⟨h1, h2⟩ => ⟨h1, ⟨d, os⟩, h2⟩
  have hrun : ∀ W : World, (Instr.slice 9 (.string s) (some (.int .i64 a)) none none).run Tryz.prog W = .ok (.string (s.extract a.toNat s.size)) W := fun W => by
    have := run_str_low (P := Tryz.prog) W 9 s Tryz.underlying9 a.toNat hat
    rw [ea] at this
    exact this
  have KP := Lib.hid KP
  clear hpre hp hat ea
  have HA := Lib.hid hA; have X1 := Lib.hid x1; have HR := Lib.hid hr; have HK := Lib.hid KC; have HL := Lib.hid hl; have HLM := Lib.hid hlm
  obtain ⟨z0, z1, z2, z3, z4, -, -⟩ := x1
  clear hA hr KC hl hlm q1 q2 hs
  go_enter Tryz.func25, Tryz.ntmps25
  go_wp2_with fail
  have gz0 := fun d os => cell_regrown z0 d os
  have gz1 := fun d os => cell_regrown z1 d os
  have gz2 := fun d os => cell_regrown z2 d os
  refine wp_region_quiet_below (by kernel_rfl) (by kernel_rfl) ?_
  repeat (quiet_step (first | exact KP.out _ _))
  refine wpQuiet_nil ?_
  intro _ hw'
  obtain ⟨⟨dq, osq⟩, hw''⟩ := hw'
  subst hw''
  have hq1 := below_regrown (w.alloc (Obj.cells #[.int .i64 21, .int .i64 a, .string t, .int .i64 n, .slice ao l c] 25)) dq osq
  have HA1 := Lib.hid (Below.chain HA.out hq1)
  have z4' := (hq1.cell (p := ⟨w.heap.size, 4, none⟩) X1.out.lt).trans z4
  clear gz0 gz1 gz2
  generalize grow (redrawn (w.alloc (Obj.cells #[.int .i64 21, .int .i64 a, .string t, .int .i64 n, .slice ao l c] 25)) dq) osq = W1 at *
  go_wp2_with fail
  go_loopw [54] (fun iv wr => ∃ j : Nat, j ≤ l ∧ iv = .int .i64 (j : Int) ∧ Below W1.heap.size W1 wr) (fun iv _ => l - (intOf iv).toNat)
  case atStart => exact ⟨0, Nat.zero_le _, rfl, Below.refl _ _⟩
  case round =>
    obtain ⟨j, hj, rfl, hB⟩ := hrel
    by_cases hlt : j < l
    · have hjL : j < ks.length := by rw [← HL.out]; exact hlt
      have hBw := Below.chain HA1.out hB
      obtain ⟨b, kk, ak, tk, nk, ok, lk, ck, eo, f0, f1, f2, f3, f4, hX⟩ := (HR.out.below hBw).get j hjL
      have hAB := (Below.refl wr.heap.size wr).alloc (Nat.le_refl _) (Obj.cells #[.int .i64 kk, .int .i64 ak, .string tk, .int .i64 nk, .slice ok lk ck] 25)
      have CS := HK.out j hjL _ _ (Below.chain hBw hAB) (hX.below hAB)
      have hlm := HLM.out
      have g0 : (0 : Int) ≤ (j : Int) := by omega
      have g1 : (j : Int) < (l : Int) := by omega
      have b2 : (0 : Int) ≤ (j : Int) + 1 ∧ (j : Int) + 1 < 9223372036854775808 := by omega
      have ej : wrap64 ((j : Int) + 1) = (j : Int) + 1 := (wrapB _ b2.1 b2.2).2
      have eo' := eo
      subst eo'
      have KS := Lib.hid CS; have HJ := Lib.hid hlt; have HB := Lib.hid (Below.chain hB hAB)
      clear CS hX hBw hB hlt hj hjL hlm b2 hAB z0 z1 z2 z3 z4
      go_wp2_with (go_at_call 25; refine KS.out.mono ?_; rintro e w2 ⟨rfl, hb⟩; refine Hid.out ?_)
      have HB2 := Lib.hid (Below.chain HB.out hb)
      clear hb
      refine Lib.hid ?_
      go_wp2
      go_roundw
      case rel => exact ⟨j + 1, HJ.out, congrArg (Value.int .i64) (ej.trans (Int.natCast_add j 1).symm), HB2.out⟩
      case measure => have := HJ.out; rw [ej]; show l - ((j : Int) + 1).toNat < l - ((j : Int)).toNat; omega
    · obtain rfl : j = l := by omega
      have ge : decide ((j : Int) < (j : Int)) = false := by rw [decide_eq_false_iff_not]; omega
      have ge2 : ¬ (j : Int) < (j : Int) := by omega
      have HB2 := Lib.hid (Below.chain HA1.out hB)
      clear hB hlt hj
      go_wp2
      go_ret
      exact ⟨rfl, HB2.out⟩
set_option maxRecDepth 20000 in
set_option maxHeartbeats 4000000 in
theorem st_goO (s : ByteArray) (k : Int) (hk : k ≠ 4 ∧ k ≠ 10 ∧ k ≠ 16 ∧ k ≠ 17 ∧ k ≠ 18 ∧ k ≠ 19 ∧ k ≠ 20 ∧ k ≠ 23 ∧ k ≠ 21) (a n : Int) (t : ByteArray) (ks : List Syn) (ao : Option Addr) (l c lo : Nat) (w : World) (hr : KidB lo w ks ao l c) (hN : NS s k a t) (hs : s.size ≤ 1500)
    (KC : ∀ (i : Nat) (h1 : i < ks.length) (W : World) (v : Value), Below w.heap.size w W → synAt lo W ks[i] v → Calls Tryz.prog 25 #[.string s, v] W fun e w' => e = .returned (.bool true) ∧ Below W.heap.size W w') :
    Calls Tryz.prog 25 #[.string s, .agg #[.int .i64 k, .int .i64 a, .string t, .int .i64 n, .slice ao l c]] w fun e w' => e = .returned (.bool true) ∧ Below w.heap.size w w' := by
  have hA : Below w.heap.size w (w.alloc (Obj.cells #[.int .i64 k, .int .i64 a, .string t, .int .i64 n, .slice ao l c] 25)) := (Below.refl _ _).alloc (Nat.le_refl _) _
  have x1 := Bx5.new w (.int .i64 k) (.int .i64 a) (.string t) (.int .i64 n) (.slice ao l c)
  have hl : l = ks.length := hr.1
  have hlm : l ≤ 9223372036854775807 := by rw [hl]; exact Nat.le_trans hr.2.1 hr.2.2.1
  obtain ⟨⟨a0, a1⟩, q1, q2⟩ := hN
  have ga0 : decide (a < (0 : Int)) = false := by rw [decide_eq_false_iff_not]; omega
  have ga1 : decide ((s.size : Int) < a) = false := by rw [decide_eq_false_iff_not]; omega
  have t4 : (k == 4) = false := by rw [beq_eq_false_iff_ne]; omega
  have t10 : (k == 10) = false := by rw [beq_eq_false_iff_ne]; omega
  have t16 : (k == 16) = false := by rw [beq_eq_false_iff_ne]; omega
  have t17 : (k == 17) = false := by rw [beq_eq_false_iff_ne]; omega
  have t18 : (k == 18) = false := by rw [beq_eq_false_iff_ne]; omega
  have t19 : (k == 19) = false := by rw [beq_eq_false_iff_ne]; omega
  have t20 : (k == 20) = false := by rw [beq_eq_false_iff_ne]; omega
  have t23 : (k == 23) = false := by rw [beq_eq_false_iff_ne]; omega
  have t21 : (k == 21) = false := by rw [beq_eq_false_iff_ne]; omega
  clear hk
  have hA1 := hA
  have HA := Lib.hid hA; have X1 := Lib.hid x1; have HR := Lib.hid hr; have HK := Lib.hid KC; have HL := Lib.hid hl; have HLM := Lib.hid hlm
  obtain ⟨z0, z1, z2, z3, z4, -, -⟩ := x1
  clear hA hr KC hl hlm q1 q2 hs
  go_enter Tryz.func25, Tryz.ntmps25
  have HA1 := Lib.hid hA1
  clear hA1
  go_wp2_with fail
  go_loopw [54] (fun iv wr => ∃ j : Nat, j ≤ l ∧ iv = .int .i64 (j : Int) ∧ Below (w.alloc (Obj.cells #[.int .i64 k, .int .i64 a, .string t, .int .i64 n, .slice ao l c] 25)).heap.size (w.alloc (Obj.cells #[.int .i64 k, .int .i64 a, .string t, .int .i64 n, .slice ao l c] 25)) wr) (fun iv _ => l - (intOf iv).toNat)
  case atStart => exact ⟨0, Nat.zero_le _, rfl, Below.refl _ _⟩
  case round =>
    obtain ⟨j, hj, rfl, hB⟩ := hrel
    by_cases hlt : j < l
    · have hjL : j < ks.length := by rw [← HL.out]; exact hlt
      have hBw := Below.chain HA1.out hB
      obtain ⟨b, kk, ak, tk, nk, ok, lk, ck, eo, f0, f1, f2, f3, f4, hX⟩ := (HR.out.below hBw).get j hjL
      have hAB := (Below.refl wr.heap.size wr).alloc (Nat.le_refl _) (Obj.cells #[.int .i64 kk, .int .i64 ak, .string tk, .int .i64 nk, .slice ok lk ck] 25)
      have CS := HK.out j hjL _ _ (Below.chain hBw hAB) (hX.below hAB)
      have hlm := HLM.out
      have g0 : (0 : Int) ≤ (j : Int) := by omega
      have g1 : (j : Int) < (l : Int) := by omega
      have b2 : (0 : Int) ≤ (j : Int) + 1 ∧ (j : Int) + 1 < 9223372036854775808 := by omega
      have ej : wrap64 ((j : Int) + 1) = (j : Int) + 1 := (wrapB _ b2.1 b2.2).2
      have eo' := eo
      subst eo'
      have KS := Lib.hid CS; have HJ := Lib.hid hlt; have HB := Lib.hid (Below.chain hB hAB)
      clear CS hX hBw hB hlt hj hjL hlm b2 hAB z0 z1 z2 z3 z4
      go_wp2_with (go_at_call 25; refine KS.out.mono ?_; rintro e w2 ⟨rfl, hb⟩; refine Hid.out ?_)
      have HB2 := Lib.hid (Below.chain HB.out hb)
      clear hb
      refine Lib.hid ?_
      go_wp2
      go_roundw
      case rel => exact ⟨j + 1, HJ.out, congrArg (Value.int .i64) (ej.trans (Int.natCast_add j 1).symm), HB2.out⟩
      case measure => have := HJ.out; rw [ej]; show l - ((j : Int) + 1).toNat < l - ((j : Int)).toNat; omega
    · obtain rfl : j = l := by omega
      have ge : decide ((j : Int) < (j : Int)) = false := by rw [decide_eq_false_iff_not]; omega
      have ge2 : ¬ (j : Int) < (j : Int) := by omega
      have HB2 := Lib.hid (Below.chain HA1.out hB)
      clear hB hlt hj
      go_wp2
      go_ret
      exact ⟨rfl, HB2.out⟩
theorem allL_get {N : Int → Int → ByteArray → Prop} : ∀ {ks : List Syn} (h : allL N ks) (i : Nat) (h1 : i < ks.length), allN N ks[i]
  | [], _, i, h1 => by simp at h1
  | x :: ks, h, 0, _ => by rw [allL] at h; exact h.1
  | x :: ks, h, i + 1, h1 => by
    rw [allL] at h
    exact allL_get h.2 i (by simpa using h1)
theorem stands_any (s : ByteArray) (hs : s.size ≤ 1500) : ∀ (N : Nat) (x : Syn) (lo : Nat) (v : Value) (w : World), SizeOf.sizeOf x < N → allN (NS s) x → synAt lo w x v → Calls Tryz.prog 25 #[.string s, v] w fun e w' => e = .returned (.bool true) ∧ Below w.heap.size w w'
  | 0, _, _, _, _, h, _, _ => by omega
  | N + 1, .mk k a t n ks, lo, v, w, hN, hA, hx => by
    obtain ⟨ao, l, c, rfl, hr⟩ := kid_rows hx
    rw [allN] at hA
    have KC : ∀ (i : Nat) (h1 : i < ks.length) (W : World) (v : Value), Below w.heap.size w W → synAt lo W ks[i] v → Calls Tryz.prog 25 #[.string s, v] W fun e w' => e = .returned (.bool true) ∧ Below W.heap.size W w' := fun i h1 W v hb g =>
      stands_any s hs N _ lo v W (by have := size_kid (k := k) (a := a) (n := n) (t := t) h1; omega) (allL_get hA.2 i h1) g
    by_cases h : k ≠ 4 ∧ k ≠ 10 ∧ k ≠ 16 ∧ k ≠ 17 ∧ k ≠ 18 ∧ k ≠ 19 ∧ k ≠ 20 ∧ k ≠ 23 ∧ k ≠ 21
    · exact st_goO s k h a n t ks ao l c lo w hr hA.1 hs KC
    · rcases (show k = 4 ∨ k = 10 ∨ k = 16 ∨ k = 17 ∨ k = 18 ∨ k = 19 ∨ k = 20 ∨ k = 23 ∨ k = 21 by omega) with rfl | rfl | rfl | rfl | rfl | rfl | rfl | rfl | rfl
      · exact st_go4 s a n t ks ao l c lo w hr hA.1 hs KC
      · exact st_go10 s a n t ks ao l c lo w hr hA.1 hs KC
      · exact st_go16 s a n t ks ao l c lo w hr hA.1 hs KC
      · exact st_go17 s a n t ks ao l c lo w hr hA.1 hs KC
      · exact st_go18 s a n t ks ao l c lo w hr hA.1 hs KC
      · exact st_go19 s a n t ks ao l c lo w hr hA.1 hs KC
      · exact st_go20 s a n t ks ao l c lo w hr hA.1 hs KC
      · exact st_go23 s a n t ks ao l c lo w hr hA.1 hs KC
      · exact st_go21 s a n t ks ao l c lo w hr hA.1 hs KC
end Go.Proofs.YtdibcllakkjegaaGreatDoor

