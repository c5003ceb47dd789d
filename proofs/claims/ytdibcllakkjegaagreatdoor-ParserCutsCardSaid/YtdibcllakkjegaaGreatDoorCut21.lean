import Derived.ChangeMaps5
import Derived.Maps.Own
import Derived.Test.YtdibcllakkjegaaGreatDoorCut18
import Derived.Test.YtdibcllakkjegaaGreatDoorCut20

set_option linter.unusedVariables false
/-
  parser: statementList.
-/
set_option linter.unusedSimpArgs false
set_option linter.unusedVariables false
namespace Go.Proofs.YtdibcllakkjegaaGreatDoor
open Go Go.Proofs Go.RowKit Go.Sort
theorem ba_ne {a b : ByteArray} (h : a ≠ b) : (a == b) = false := by
  rw [Bool.eq_false_iff, beq_toListBytes]
  exact fun e => h ((Lib.bytes_beq_iff _ _).mp e)
theorem ba_self (a : ByteArray) : (a == a) = true := by
  rw [beq_toListBytes]
  exact (Lib.bytes_beq_iff _ _).mpr rfl
theorem look_hit {w : World} {b : Nat} {es : Array MapEntry} {clock : Nat} (hb : w.heap[b]? = some (.map es clock)) (s : ByteArray) (i : Nat) (v : Value)
    (h1 : Instr.findNow .string (.string s) es.toList 0 = some (some (i, v))) :
    (Instr.lookup 83 (.map (some b)) (.string s) true).run Tryz.prog w = .ok (.tuple #[v, .bool true]) w := by
  have hkey : MapKept.IsKey .string (.string s) := trivial
  simp [Instr.lookup, run_underlying Tryz.underlying83, MapKept.run_getObj_map hb, MapKept.run_checkKey Tryz.underlying9 hkey, MapKept.run_findKey Tryz.underlying9 h1, Result.andThen]
theorem look_miss {w : World} {b : Nat} {es : Array MapEntry} {clock : Nat} (hb : w.heap[b]? = some (.map es clock)) (s : ByteArray)
    (h1 : Instr.findNow .string (.string s) es.toList 0 = some none) :
    (Instr.lookup 83 (.map (some b)) (.string s) true).run Tryz.prog w = .ok (.tuple #[.nilFunc, .bool false]) w := by
  have hkey : MapKept.IsKey .string (.string s) := trivial
  simp [Instr.lookup, run_underlying Tryz.underlying83, MapKept.run_getObj_map hb, MapKept.run_checkKey Tryz.underlying9 hkey, MapKept.run_findKey Tryz.underlying9 h1, Result.andThen]
theorem find_none (s : ByteArray) (v0 v1 v2 v3 v4 : Value) (i0 i1 i2 i3 i4 : Nat) (h0 : s ≠ ⟨#[110, 97, 109, 101]⟩) (h1 : s ≠ ⟨#[105, 102]⟩) (h2 : s ≠ ⟨#[119, 104, 105, 108, 101]⟩) (h3 : s ≠ ⟨#[97, 115, 115, 101, 114, 116]⟩) (h4 : s ≠ ⟨#[97, 115, 115, 117, 109, 101]⟩) :
    Instr.findNow .string (.string s) [⟨.string ⟨#[110, 97, 109, 101]⟩, v0, i0⟩, ⟨.string ⟨#[105, 102]⟩, v1, i1⟩, ⟨.string ⟨#[119, 104, 105, 108, 101]⟩, v2, i2⟩, ⟨.string ⟨#[97, 115, 115, 101, 114, 116]⟩, v3, i3⟩, ⟨.string ⟨#[97, 115, 115, 117, 109, 101]⟩, v4, i4⟩] 0 = some none := by
  have h0 := ba_ne h0; have h1 := ba_ne h1; have h2 := ba_ne h2; have h3 := ba_ne h3; have h4 := ba_ne h4
  simp [Instr.findNow, Instr.sameNow, h0, h1, h2, h3, h4]
theorem find_0 (v0 v1 v2 v3 v4 : Value) (i0 i1 i2 i3 i4 : Nat) :
    Instr.findNow .string (.string ⟨#[110, 97, 109, 101]⟩) [⟨.string ⟨#[110, 97, 109, 101]⟩, v0, i0⟩, ⟨.string ⟨#[105, 102]⟩, v1, i1⟩, ⟨.string ⟨#[119, 104, 105, 108, 101]⟩, v2, i2⟩, ⟨.string ⟨#[97, 115, 115, 101, 114, 116]⟩, v3, i3⟩, ⟨.string ⟨#[97, 115, 115, 117, 109, 101]⟩, v4, i4⟩] 0 = some (some (0, v0)) := by
  have es := ba_self ⟨#[110, 97, 109, 101]⟩
  simp [Instr.findNow, Instr.sameNow, es]
theorem find_1 (v0 v1 v2 v3 v4 : Value) (i0 i1 i2 i3 i4 : Nat) :
    Instr.findNow .string (.string ⟨#[105, 102]⟩) [⟨.string ⟨#[110, 97, 109, 101]⟩, v0, i0⟩, ⟨.string ⟨#[105, 102]⟩, v1, i1⟩, ⟨.string ⟨#[119, 104, 105, 108, 101]⟩, v2, i2⟩, ⟨.string ⟨#[97, 115, 115, 101, 114, 116]⟩, v3, i3⟩, ⟨.string ⟨#[97, 115, 115, 117, 109, 101]⟩, v4, i4⟩] 0 = some (some (1, v1)) := by
  have es := ba_self ⟨#[105, 102]⟩
  have e0 := ba_ne (show (⟨#[105, 102]⟩ : ByteArray) ≠ ⟨#[110, 97, 109, 101]⟩ by decide)
  simp [Instr.findNow, Instr.sameNow, es, e0]
theorem find_2 (v0 v1 v2 v3 v4 : Value) (i0 i1 i2 i3 i4 : Nat) :
    Instr.findNow .string (.string ⟨#[119, 104, 105, 108, 101]⟩) [⟨.string ⟨#[110, 97, 109, 101]⟩, v0, i0⟩, ⟨.string ⟨#[105, 102]⟩, v1, i1⟩, ⟨.string ⟨#[119, 104, 105, 108, 101]⟩, v2, i2⟩, ⟨.string ⟨#[97, 115, 115, 101, 114, 116]⟩, v3, i3⟩, ⟨.string ⟨#[97, 115, 115, 117, 109, 101]⟩, v4, i4⟩] 0 = some (some (2, v2)) := by
  have es := ba_self ⟨#[119, 104, 105, 108, 101]⟩
  have e0 := ba_ne (show (⟨#[119, 104, 105, 108, 101]⟩ : ByteArray) ≠ ⟨#[110, 97, 109, 101]⟩ by decide)
  have e1 := ba_ne (show (⟨#[119, 104, 105, 108, 101]⟩ : ByteArray) ≠ ⟨#[105, 102]⟩ by decide)
  simp [Instr.findNow, Instr.sameNow, es, e0, e1]
theorem find_3 (v0 v1 v2 v3 v4 : Value) (i0 i1 i2 i3 i4 : Nat) :
    Instr.findNow .string (.string ⟨#[97, 115, 115, 101, 114, 116]⟩) [⟨.string ⟨#[110, 97, 109, 101]⟩, v0, i0⟩, ⟨.string ⟨#[105, 102]⟩, v1, i1⟩, ⟨.string ⟨#[119, 104, 105, 108, 101]⟩, v2, i2⟩, ⟨.string ⟨#[97, 115, 115, 101, 114, 116]⟩, v3, i3⟩, ⟨.string ⟨#[97, 115, 115, 117, 109, 101]⟩, v4, i4⟩] 0 = some (some (3, v3)) := by
  have es := ba_self ⟨#[97, 115, 115, 101, 114, 116]⟩
  have e0 := ba_ne (show (⟨#[97, 115, 115, 101, 114, 116]⟩ : ByteArray) ≠ ⟨#[110, 97, 109, 101]⟩ by decide)
  have e1 := ba_ne (show (⟨#[97, 115, 115, 101, 114, 116]⟩ : ByteArray) ≠ ⟨#[105, 102]⟩ by decide)
  have e2 := ba_ne (show (⟨#[97, 115, 115, 101, 114, 116]⟩ : ByteArray) ≠ ⟨#[119, 104, 105, 108, 101]⟩ by decide)
  simp [Instr.findNow, Instr.sameNow, es, e0, e1, e2]
theorem find_4 (v0 v1 v2 v3 v4 : Value) (i0 i1 i2 i3 i4 : Nat) :
    Instr.findNow .string (.string ⟨#[97, 115, 115, 117, 109, 101]⟩) [⟨.string ⟨#[110, 97, 109, 101]⟩, v0, i0⟩, ⟨.string ⟨#[105, 102]⟩, v1, i1⟩, ⟨.string ⟨#[119, 104, 105, 108, 101]⟩, v2, i2⟩, ⟨.string ⟨#[97, 115, 115, 101, 114, 116]⟩, v3, i3⟩, ⟨.string ⟨#[97, 115, 115, 117, 109, 101]⟩, v4, i4⟩] 0 = some (some (4, v4)) := by
  have es := ba_self ⟨#[97, 115, 115, 117, 109, 101]⟩
  have e0 := ba_ne (show (⟨#[97, 115, 115, 117, 109, 101]⟩ : ByteArray) ≠ ⟨#[110, 97, 109, 101]⟩ by decide)
  have e1 := ba_ne (show (⟨#[97, 115, 115, 117, 109, 101]⟩ : ByteArray) ≠ ⟨#[105, 102]⟩ by decide)
  have e2 := ba_ne (show (⟨#[97, 115, 115, 117, 109, 101]⟩ : ByteArray) ≠ ⟨#[119, 104, 105, 108, 101]⟩ by decide)
  have e3 := ba_ne (show (⟨#[97, 115, 115, 117, 109, 101]⟩ : ByteArray) ≠ ⟨#[97, 115, 115, 101, 114, 116]⟩ by decide)
  simp [Instr.findNow, Instr.sameNow, es, e0, e1, e2, e3]
theorem sstartB {R : Nat} {L : List Tk} {d : Nat} {st : RSt} {w : World} (h : At R L w d st) : Calls Tryz.prog 142 #[.pointer (some ⟨R, 0, none⟩)] w fun e w' => e = .returned (.string (if isN (cur L st) = true then ⟨#[110, 97, 109, 101]⟩ else (cur L st).t)) ∧ Below w.heap.size w w' := by
  obtain ⟨hf, nx, a, er, h1, h2, h3⟩ := h
  rw [cur_of h1 h3]
  exact pstart_any R L nx d a er w h2 h1 (Nat.le_trans (hf.toks.size nx) (by decide)) hf.cls
def begS (L : List Tk) (s : RSt) : Prop := isN (cur L s) = true ∨ tIs L s ⟨#[105, 102]⟩ = true ∨ tIs L s ⟨#[119, 104, 105, 108, 101]⟩ = true ∨ tIs L s ⟨#[97, 115, 115, 101, 114, 116]⟩ = true ∨ tIs L s ⟨#[97, 115, 115, 117, 109, 101]⟩ = true
theorem stmts_cons {L : List Tk} {d : Nat} {s s2 s' : RSt} {y : Syn} {ys : List Syn} (hf : s.fine) (hb : begS L s) (h : Stp .stmt d s [y] s2) (ht : Stp .stmts d s2 ys s') : Stp .stmts d s (y :: ys) s' :=
  st_stmts (Run.bind (run_named (L := L) hf) (Run.bind (run_is (L := L) hf wIf) (Run.bind (run_is (L := L) hf wWhile) (Run.bind (run_is (L := L) hf wAssert) (Run.bind (run_is (L := L) hf wAssume) (Run.ite (fun _ => Run.bind h (Run.bind ht (run_ret (Run.fine ht (Run.fine h hf))))) (fun e => absurd hb e)))))))
theorem stmts_nil {L : List Tk} {d : Nat} {s : RSt} (hf : s.fine) (hb : ¬ begS L s) : Stp .stmts d s [] s :=
  st_stmts (Run.bind (run_named (L := L) hf) (Run.bind (run_is (L := L) hf wIf) (Run.bind (run_is (L := L) hf wWhile) (Run.bind (run_is (L := L) hf wAssert) (Run.bind (run_is (L := L) hf wAssume) (Run.ite (fun e => absurd e hb) (fun _ => run_ret hf)))))))
theorem tIs_lit {L : List Tk} {s : RSt} {t : ByteArray} (h : tIs L s t = true) : (cur L s).t = t := (Lib.bytes_beq_iff _ _).mp h
theorem tIs_no {L : List Tk} {s : RSt} {t : ByteArray} (h : tIs L s t = false) : (cur L s).t ≠ t := fun e => by
  unfold tIs at h
  rw [e, beq_self_eq_true] at h
  cases h
theorem beg_text {L : List Tk} {s : RSt} (hL : TkL L) (h : begS L s) : ∃ l, s = .ok l ∧ ∀ {R d : Nat} {W : World}, At R L W d s → 2 ≤ l.length := by
  have key : ∀ {R d : Nat} {W : World}, At R L W d s → (∃ l, s = .ok l ∧ 2 ≤ l.length) := by
    intro R d W ha
    obtain ⟨hf, nx, a, er, h1, h2, h3⟩ := ha
    have hc := cur_of h1 h3
    have hnl : nx ≠ L.length - 1 := by
      rintro rfl
      have hk := hL.last
      rw [show lastT L = cur L s from hc.symm] at hk
      rcases h with h | h | h | h | h
      · unfold isN at h; rw [hk.1] at h; exact absurd h (by simp)
      · exact absurd ((tIs_lit h).symm.trans hk.2) (by decide)
      · exact absurd ((tIs_lit h).symm.trans hk.2) (by decide)
      · exact absurd ((tIs_lit h).symm.trans hk.2) (by decide)
      · exact absurd ((tIs_lit h).symm.trans hk.2) (by decide)
    rcases h3 with ⟨-, -, rfl⟩ | ⟨-, e, -⟩
    · exact ⟨_, rfl, by rw [List.length_drop]; omega⟩
    · exact absurd e hnl
  cases s with
  | ok l => exact ⟨l, rfl, fun ha => by obtain ⟨l', e, h2⟩ := key ha; cases e; exact h2⟩
  | bad a e =>
    exfalso
    rcases h with h | h | h | h | h
    · rw [isN_bad hL] at h; cases h
    · exact absurd ((tIs_bad hL (s := wIf) (by decide)).symm.trans h) (by decide)
    · exact absurd ((tIs_bad hL (s := wWhile) (by decide)).symm.trans h) (by decide)
    · exact absurd ((tIs_bad hL (s := wAssert) (by decide)).symm.trans h) (by decide)
    · exact absurd ((tIs_bad hL (s := wAssume) (by decide)).symm.trans h) (by decide)
structure SmtAt (R : Nat) (L : List Tk) (w : World) (d : Nat) (st : RSt) (wr : World) (s : RSt) (xs : List Syn) (v : Value) : Prop where
  hat : At R L wr d s
  hb : Butt R w wr
  own : ownT w.heap.size wr xs v
  len : xs.length + s.rem ≤ st.rem
  go : ∀ ys s', Stp .stmts d s ys s' → Stp .stmts d st (xs ++ ys) s'
def KS (f : Nat) (args : Array Value) (R : Nat) (L : List Tk) (d : Nat) (s : RSt) : Prop := ∀ W : World, At R L W d s → Calls Tryz.prog f args W (PT R L .stmt d s W)
set_option maxRecDepth 20000 in
set_option maxHeartbeats 4000000 in
theorem pstatementList {R : Nat} {L : List Tk} {d : Nat} {st : RSt} {w : World} (h : At R L w d st) (hN : ∀ n, (tkD L n).t = ⟨#[110, 97, 109, 101]⟩ → isN (tkD L n) = true) (K0 : ∀ s : RSt, s.rem ≤ st.rem → isN (cur L s) = true → KS 122 #[.pointer (some ⟨R, 0, none⟩)] R L d s) (K1 : ∀ s : RSt, s.rem ≤ st.rem → isN (cur L s) = false → tIs L s ⟨#[105, 102]⟩ = true → KS 123 #[.pointer (some ⟨R, 0, none⟩)] R L d s) (K2 : ∀ s : RSt, s.rem ≤ st.rem → isN (cur L s) = false → tIs L s ⟨#[105, 102]⟩ = false → tIs L s ⟨#[119, 104, 105, 108, 101]⟩ = true → KS 124 #[.pointer (some ⟨R, 0, none⟩)] R L d s) (K3 : ∀ (q : Nat) (s : RSt), s.rem ≤ st.rem → isN (cur L s) = false → tIs L s ⟨#[105, 102]⟩ = false → tIs L s ⟨#[119, 104, 105, 108, 101]⟩ = false → tIs L s ⟨#[97, 115, 115, 101, 114, 116]⟩ = true → ∀ W : World, At R L W d s → W.cell? ⟨q, 0, none⟩ = some (.pointer (some ⟨R, 0, none⟩)) → q ≠ R → q < W.heap.size → Calls Tryz.prog 125 #[.pointer (some ⟨q, 0, none⟩)] W (PT R L .stmt d s W)) (K4 : ∀ (q : Nat) (s : RSt), s.rem ≤ st.rem → isN (cur L s) = false → tIs L s ⟨#[105, 102]⟩ = false → tIs L s ⟨#[119, 104, 105, 108, 101]⟩ = false → tIs L s ⟨#[97, 115, 115, 101, 114, 116]⟩ = false → tIs L s ⟨#[97, 115, 115, 117, 109, 101]⟩ = true → ∀ W : World, At R L W d s → W.cell? ⟨q, 0, none⟩ = some (.pointer (some ⟨R, 0, none⟩)) → q ≠ R → q < W.heap.size → Calls Tryz.prog 127 #[.pointer (some ⟨q, 0, none⟩)] W (PT R L .stmt d s W)) :
    Calls Tryz.prog 116 #[.pointer (some ⟨R, 0, none⟩)] w (PL R L .stmts d st w) := by
  have HTL := Lib.hid h.fix.toks; have HRA := Lib.hid h.rem
  obtain ⟨m, es, clk, c6, hmR, hml, hm, i0, i1, i2, i3, i4, q, hqR, hql, hq, he⟩ := h.fix.stms
  subst he
  have HMAP := Lib.hid hm; have HML := Lib.hid hml; have HMR := Lib.hid hmR; have HC6 := Lib.hid c6; have HQ := Lib.hid hq; have HQR := Lib.hid hqR; have HQL := Lib.hid hql; have HNM := Lib.hid hN
  have KK0 := Lib.hid K0
  have KK1 := Lib.hid K1
  have KK2 := Lib.hid K2
  have KK3 := Lib.hid K3
  have KK4 := Lib.hid K4
  clear c6 hmR hml hm hqR hql hq hN K0 K1 K2 K3 K4
  have HA0 := Lib.hid h
  have HLT := Lib.hid h.fix.lt; have HRW := Lib.hid h.fix.lt
  have A0 := Lib.hid h; have B0 := Lib.hid (Butt.refl R w)
  clear h 
  go_enter Tryz.func116, Tryz.ntmps116
  go_wp2_with fail
  go_loopw [3] (fun v wr => ∃ (s : RSt) (xs : List Syn) (ao : Option Addr) (c : Nat), v = .slice ao xs.length c ∧ SmtAt R L w d st wr s xs v) (fun _ wr => remW R L wr)
  case atStart => exact ⟨st, [], none, 0, rfl, A0.out, B0.out, ownT.nil _ _, by simp, fun ys s' hs => hs⟩
  case round =>
    obtain ⟨s, xs, ao, c, rfl, hrel⟩ := hrel
    have CS := fun d' os => Calls.regrown_of (sstartB (hrel.hat.below (below_regrown wr d' os)))
    have hc6 : ∀ d os, (grow (redrawn wr d) os).cell? ⟨R, 6, none⟩ = some (.map (some m)) := fun d os => cell_regrown ((hrel.hb.own 6 (.inr (by decide))).trans HC6.out) d os
    have hmap : ∀ d os, (grow (redrawn wr d) os).heap[m]? = _ := fun d os => ((below_regrown wr d os).block m (Nat.lt_of_lt_of_le HML.out hrel.hb.size)).trans ((hrel.hb.block m HML.out HMR.out).trans HMAP.out)
    have HSR : Hid (s.rem ≤ st.rem) := Lib.hid (by have := hrel.len; omega)
    have HR := Lib.hid hrel
    cases h0 : isN (cur L s) with
    | true =>
      rw [h0, if_pos rfl] at CS
      have HC0 := Lib.hid h0; have HBG : Hid (begS L s) := Lib.hid (.inl h0)
      clear h0
      have hlk := fun d os => look_hit (hmap d os) ⟨#[110, 97, 109, 101]⟩ 0 (.func (.func 122) #[.pointer (some ⟨R, 0, none⟩)] #[]) (find_0 _ _ _ _ _ _ _ _ _ _)
      have KS' := Lib.hid CS
      clear CS hmap hrel
      go_wp2_with fail
      refine wp_region_quiet_below (by kernel_rfl) (by kernel_rfl) ?_
      quiet_step (fail)
      quiet_step (fail)
      quiet_step (fail)
      quiet_step (fail)
      quiet_step (fail)
      quiet_step (exact KS'.out _ _)
      quiet_step (fail)
      quiet_step (fail)
      quiet_step (fail)
      quiet_step (fail)
      quiet_step (fail)
      quiet_step (fail)
      refine wpQuiet_nil ?_
      intro _ hw'
      obtain ⟨⟨dq, osq⟩, hw''⟩ := hw'
      subst hw''
      have A0 := Lib.hid (HR.out.hat.below (below_regrown wr dq osq)); have B0 := Lib.hid (HR.out.hb.trans (Butt.of_below HR.out.hat.fix.lt (below_regrown wr dq osq)))
      have OW := Lib.hid (HR.out.own.keep (Nat.le_refl _) (From.of_below (below_regrown wr dq osq)))
      clear hc6 hlk
      generalize grow (redrawn wr dq) osq = wq at *
      go_wp2_with (go_at_call 122; refine (KK0.out s HSR.out HC0.out _ A0.out).mono ?_; rintro e w1 ⟨x1, v1, s1, rfl, hx1, hs1, ha1, hb1⟩; refine Hid.out ?_)
      obtain ⟨k1, a1, t1, n1, o1, l1, c1, q1, rfl, rfl, hk1⟩ := hx1.shape
      have HS1 := Lib.hid hs1
      have HOFF := Lib.hid (OW.out.off (Nat.le_refl _) hx1 B0.out.size)
      have HLEN : Hid ((xs ++ [Syn.mk k1 a1 t1 n1 q1]).length + s1.rem ≤ st.rem) := Lib.hid (by
        obtain ⟨l1, e1, e2⟩ := beg_text HTL.out HBG.out
        have e3 := e2 HR.out.hat
        have g1 := HR.out.len
        have g2 := stmt_rem e3 (e1 ▸ HS1.out)
        rw [e1, show (RSt.ok l1).rem = l1.length from rfl] at g1
        rw [List.length_append, show [Syn.mk k1 a1 t1 n1 q1].length = 1 from rfl]
        omega)
      have TR1 := Lib.hid (synIn.of (ps := []) hx1 (Nat.le_trans (Nat.le_refl _) B0.out.size) (by simp))
      have A1 := Lib.hid ha1; have B1 := Lib.hid (B0.out.trans hb1)
      have OW1 := Lib.hid (OW.out.keep (Nat.le_refl _) (hb1.froms HLT.out))
      clear ha1 hb1 hx1 hk1 hs1
      refine Lib.hid ?_
      have A1a := Lib.hid (A1.out.alloc (Obj.cells #[.int .i64 k1, .int .i64 a1, .string t1, .int .i64 n1, .slice o1 l1 c1] 25)); have B1a := Lib.hid (B1.out.alloc HRW.out (Obj.cells #[.int .i64 k1, .int .i64 a1, .string t1, .int .i64 n1, .slice o1 l1 c1] 25))
      have TR11a := Lib.hid (TR1.out.butt HLT.out (Butt.of_below A1.out.fix.lt ((Below.refl _ _).alloc (Nat.le_refl _) (Obj.cells #[.int .i64 k1, .int .i64 a1, .string t1, .int .i64 n1, .slice o1 l1 c1] 25))))
      have OW1a := Lib.hid (OW1.out.keep (Nat.le_refl _) (From.of_below ((Below.refl _ _).alloc (Nat.le_refl _) (Obj.cells #[.int .i64 k1, .int .i64 a1, .string t1, .int .i64 n1, .slice o1 l1 c1] 25))))
      have HZ := Lib.hid (HOFF.out.below ((Below.refl _ _).alloc (Nat.le_refl _) (Obj.cells #[.int .i64 k1, .int .i64 a1, .string t1, .int .i64 n1, .slice o1 l1 c1] 25)))
      have HL1 : Hid (xs.length ≤ 1200000) := Lib.hid (by have := HR.out.len; have := HRA.out; omega)
      have HB1 : Hid (w.heap.size ≤ (w1.alloc (Obj.cells #[.int .i64 k1, .int .i64 a1, .string t1, .int .i64 n1, .slice o1 l1 c1] 25)).heap.size) := Lib.hid B1a.out.size
      go_wp2_with (first | (at_builtin; refine wpList_append_tree rfl (.tmp 19) (.tmp 22) rfl w.heap.size _ xs (by simp [Act.eval, Act.put]) OW1a.out HL1.out HB1.out w1.heap.size _ _ _ _ _ _ (by simp [Act.eval, Act.put]) HZ.out ⟨rfl, rfl, rfl, rfl, rfl⟩ (by go_cell) (by go_cell) (by go_cell) (by go_cell) (by go_cell) ?_; intro v9 ao9 cap9 w9 hv9 ho9 hg9; refine Hid.out ?_) | fail)
      subst hv9
      have hgr := At.grow HA0.out A1a.out B1a.out (grownBy_froms hg9 (fun b e => (OW1a.out.lo b e).1) HLT.out HB1.out)
      have HNX : Hid (SmtAt R L w d st w9 s1 (xs ++ [.mk k1 a1 t1 n1 q1]) _) := Lib.hid ⟨hgr.1, hgr.2, ho9, HLEN.out, fun ys s' ht => by have e := HR.out.go _ _ (stmts_cons HR.out.hat.fine HBG.out HS1.out ht); rw [List.append_assoc]; exact e⟩
      clear hgr ho9 hg9
      refine Lib.hid ?_
      go_wp2
      go_roundw
      case rel => exact ⟨s1, xs ++ [.mk k1 a1 t1 n1 q1], ao9, cap9, by rw [List.length_append]; rfl, HNX.out⟩
      case measure =>
        obtain ⟨l1, e1, e2⟩ := beg_text HTL.out HBG.out
        have e3 := e2 HR.out.hat
        have g1 := remW_ok (e1 ▸ HR.out.hat)
        have g2 := remW_le HNX.out.hat
        have g3 := stmt_rem e3 (e1 ▸ HS1.out)
        rw [g1]
        omega
    | false =>
      rw [h0, if_neg Bool.false_ne_true] at CS
      cases h1 : tIs L s ⟨#[105, 102]⟩ with
      | true =>
        rw [tIs_lit h1] at CS
        have HC0 := Lib.hid h0; have HC1 := Lib.hid h1; have HBG : Hid (begS L s) := Lib.hid (.inr (.inl h1))
        clear h0 h1
        have hlk := fun d os => look_hit (hmap d os) ⟨#[105, 102]⟩ 1 (.func (.func 123) #[.pointer (some ⟨R, 0, none⟩)] #[]) (find_1 _ _ _ _ _ _ _ _ _ _)
        have KS' := Lib.hid CS
        clear CS hmap hrel
        go_wp2_with fail
        refine wp_region_quiet_below (by kernel_rfl) (by kernel_rfl) ?_
        quiet_step (fail)
        quiet_step (fail)
        quiet_step (fail)
        quiet_step (fail)
        quiet_step (fail)
        quiet_step (exact KS'.out _ _)
        quiet_step (fail)
        quiet_step (fail)
        quiet_step (fail)
        quiet_step (fail)
        quiet_step (fail)
        quiet_step (fail)
        refine wpQuiet_nil ?_
        intro _ hw'
        obtain ⟨⟨dq, osq⟩, hw''⟩ := hw'
        subst hw''
        have A0 := Lib.hid (HR.out.hat.below (below_regrown wr dq osq)); have B0 := Lib.hid (HR.out.hb.trans (Butt.of_below HR.out.hat.fix.lt (below_regrown wr dq osq)))
        have OW := Lib.hid (HR.out.own.keep (Nat.le_refl _) (From.of_below (below_regrown wr dq osq)))
        clear hc6 hlk
        generalize grow (redrawn wr dq) osq = wq at *
        go_wp2_with (go_at_call 123; refine (KK1.out s HSR.out HC0.out HC1.out _ A0.out).mono ?_; rintro e w1 ⟨x1, v1, s1, rfl, hx1, hs1, ha1, hb1⟩; refine Hid.out ?_)
        obtain ⟨k1, a1, t1, n1, o1, l1, c1, q1, rfl, rfl, hk1⟩ := hx1.shape
        have HS1 := Lib.hid hs1
        have HOFF := Lib.hid (OW.out.off (Nat.le_refl _) hx1 B0.out.size)
        have HLEN : Hid ((xs ++ [Syn.mk k1 a1 t1 n1 q1]).length + s1.rem ≤ st.rem) := Lib.hid (by
          obtain ⟨l1, e1, e2⟩ := beg_text HTL.out HBG.out
          have e3 := e2 HR.out.hat
          have g1 := HR.out.len
          have g2 := stmt_rem e3 (e1 ▸ HS1.out)
          rw [e1, show (RSt.ok l1).rem = l1.length from rfl] at g1
          rw [List.length_append, show [Syn.mk k1 a1 t1 n1 q1].length = 1 from rfl]
          omega)
        have TR1 := Lib.hid (synIn.of (ps := []) hx1 (Nat.le_trans (Nat.le_refl _) B0.out.size) (by simp))
        have A1 := Lib.hid ha1; have B1 := Lib.hid (B0.out.trans hb1)
        have OW1 := Lib.hid (OW.out.keep (Nat.le_refl _) (hb1.froms HLT.out))
        clear ha1 hb1 hx1 hk1 hs1
        refine Lib.hid ?_
        have A1a := Lib.hid (A1.out.alloc (Obj.cells #[.int .i64 k1, .int .i64 a1, .string t1, .int .i64 n1, .slice o1 l1 c1] 25)); have B1a := Lib.hid (B1.out.alloc HRW.out (Obj.cells #[.int .i64 k1, .int .i64 a1, .string t1, .int .i64 n1, .slice o1 l1 c1] 25))
        have TR11a := Lib.hid (TR1.out.butt HLT.out (Butt.of_below A1.out.fix.lt ((Below.refl _ _).alloc (Nat.le_refl _) (Obj.cells #[.int .i64 k1, .int .i64 a1, .string t1, .int .i64 n1, .slice o1 l1 c1] 25))))
        have OW1a := Lib.hid (OW1.out.keep (Nat.le_refl _) (From.of_below ((Below.refl _ _).alloc (Nat.le_refl _) (Obj.cells #[.int .i64 k1, .int .i64 a1, .string t1, .int .i64 n1, .slice o1 l1 c1] 25))))
        have HZ := Lib.hid (HOFF.out.below ((Below.refl _ _).alloc (Nat.le_refl _) (Obj.cells #[.int .i64 k1, .int .i64 a1, .string t1, .int .i64 n1, .slice o1 l1 c1] 25)))
        have HL1 : Hid (xs.length ≤ 1200000) := Lib.hid (by have := HR.out.len; have := HRA.out; omega)
        have HB1 : Hid (w.heap.size ≤ (w1.alloc (Obj.cells #[.int .i64 k1, .int .i64 a1, .string t1, .int .i64 n1, .slice o1 l1 c1] 25)).heap.size) := Lib.hid B1a.out.size
        go_wp2_with (first | (at_builtin; refine wpList_append_tree rfl (.tmp 19) (.tmp 22) rfl w.heap.size _ xs (by simp [Act.eval, Act.put]) OW1a.out HL1.out HB1.out w1.heap.size _ _ _ _ _ _ (by simp [Act.eval, Act.put]) HZ.out ⟨rfl, rfl, rfl, rfl, rfl⟩ (by go_cell) (by go_cell) (by go_cell) (by go_cell) (by go_cell) ?_; intro v9 ao9 cap9 w9 hv9 ho9 hg9; refine Hid.out ?_) | fail)
        subst hv9
        have hgr := At.grow HA0.out A1a.out B1a.out (grownBy_froms hg9 (fun b e => (OW1a.out.lo b e).1) HLT.out HB1.out)
        have HNX : Hid (SmtAt R L w d st w9 s1 (xs ++ [.mk k1 a1 t1 n1 q1]) _) := Lib.hid ⟨hgr.1, hgr.2, ho9, HLEN.out, fun ys s' ht => by have e := HR.out.go _ _ (stmts_cons HR.out.hat.fine HBG.out HS1.out ht); rw [List.append_assoc]; exact e⟩
        clear hgr ho9 hg9
        refine Lib.hid ?_
        go_wp2
        go_roundw
        case rel => exact ⟨s1, xs ++ [.mk k1 a1 t1 n1 q1], ao9, cap9, by rw [List.length_append]; rfl, HNX.out⟩
        case measure =>
          obtain ⟨l1, e1, e2⟩ := beg_text HTL.out HBG.out
          have e3 := e2 HR.out.hat
          have g1 := remW_ok (e1 ▸ HR.out.hat)
          have g2 := remW_le HNX.out.hat
          have g3 := stmt_rem e3 (e1 ▸ HS1.out)
          rw [g1]
          omega
      | false =>
        cases h2 : tIs L s ⟨#[119, 104, 105, 108, 101]⟩ with
        | true =>
          rw [tIs_lit h2] at CS
          have HC0 := Lib.hid h0; have HC1 := Lib.hid h1; have HC2 := Lib.hid h2; have HBG : Hid (begS L s) := Lib.hid (.inr (.inr (.inl h2)))
          clear h0 h1 h2
          have hlk := fun d os => look_hit (hmap d os) ⟨#[119, 104, 105, 108, 101]⟩ 2 (.func (.func 124) #[.pointer (some ⟨R, 0, none⟩)] #[]) (find_2 _ _ _ _ _ _ _ _ _ _)
          have KS' := Lib.hid CS
          clear CS hmap hrel
          go_wp2_with fail
          refine wp_region_quiet_below (by kernel_rfl) (by kernel_rfl) ?_
          quiet_step (fail)
          quiet_step (fail)
          quiet_step (fail)
          quiet_step (fail)
          quiet_step (fail)
          quiet_step (exact KS'.out _ _)
          quiet_step (fail)
          quiet_step (fail)
          quiet_step (fail)
          quiet_step (fail)
          quiet_step (fail)
          quiet_step (fail)
          refine wpQuiet_nil ?_
          intro _ hw'
          obtain ⟨⟨dq, osq⟩, hw''⟩ := hw'
          subst hw''
          have A0 := Lib.hid (HR.out.hat.below (below_regrown wr dq osq)); have B0 := Lib.hid (HR.out.hb.trans (Butt.of_below HR.out.hat.fix.lt (below_regrown wr dq osq)))
          have OW := Lib.hid (HR.out.own.keep (Nat.le_refl _) (From.of_below (below_regrown wr dq osq)))
          clear hc6 hlk
          generalize grow (redrawn wr dq) osq = wq at *
          go_wp2_with (go_at_call 124; refine (KK2.out s HSR.out HC0.out HC1.out HC2.out _ A0.out).mono ?_; rintro e w1 ⟨x1, v1, s1, rfl, hx1, hs1, ha1, hb1⟩; refine Hid.out ?_)
          obtain ⟨k1, a1, t1, n1, o1, l1, c1, q1, rfl, rfl, hk1⟩ := hx1.shape
          have HS1 := Lib.hid hs1
          have HOFF := Lib.hid (OW.out.off (Nat.le_refl _) hx1 B0.out.size)
          have HLEN : Hid ((xs ++ [Syn.mk k1 a1 t1 n1 q1]).length + s1.rem ≤ st.rem) := Lib.hid (by
            obtain ⟨l1, e1, e2⟩ := beg_text HTL.out HBG.out
            have e3 := e2 HR.out.hat
            have g1 := HR.out.len
            have g2 := stmt_rem e3 (e1 ▸ HS1.out)
            rw [e1, show (RSt.ok l1).rem = l1.length from rfl] at g1
            rw [List.length_append, show [Syn.mk k1 a1 t1 n1 q1].length = 1 from rfl]
            omega)
          have TR1 := Lib.hid (synIn.of (ps := []) hx1 (Nat.le_trans (Nat.le_refl _) B0.out.size) (by simp))
          have A1 := Lib.hid ha1; have B1 := Lib.hid (B0.out.trans hb1)
          have OW1 := Lib.hid (OW.out.keep (Nat.le_refl _) (hb1.froms HLT.out))
          clear ha1 hb1 hx1 hk1 hs1
          refine Lib.hid ?_
          have A1a := Lib.hid (A1.out.alloc (Obj.cells #[.int .i64 k1, .int .i64 a1, .string t1, .int .i64 n1, .slice o1 l1 c1] 25)); have B1a := Lib.hid (B1.out.alloc HRW.out (Obj.cells #[.int .i64 k1, .int .i64 a1, .string t1, .int .i64 n1, .slice o1 l1 c1] 25))
          have TR11a := Lib.hid (TR1.out.butt HLT.out (Butt.of_below A1.out.fix.lt ((Below.refl _ _).alloc (Nat.le_refl _) (Obj.cells #[.int .i64 k1, .int .i64 a1, .string t1, .int .i64 n1, .slice o1 l1 c1] 25))))
          have OW1a := Lib.hid (OW1.out.keep (Nat.le_refl _) (From.of_below ((Below.refl _ _).alloc (Nat.le_refl _) (Obj.cells #[.int .i64 k1, .int .i64 a1, .string t1, .int .i64 n1, .slice o1 l1 c1] 25))))
          have HZ := Lib.hid (HOFF.out.below ((Below.refl _ _).alloc (Nat.le_refl _) (Obj.cells #[.int .i64 k1, .int .i64 a1, .string t1, .int .i64 n1, .slice o1 l1 c1] 25)))
          have HL1 : Hid (xs.length ≤ 1200000) := Lib.hid (by have := HR.out.len; have := HRA.out; omega)
          have HB1 : Hid (w.heap.size ≤ (w1.alloc (Obj.cells #[.int .i64 k1, .int .i64 a1, .string t1, .int .i64 n1, .slice o1 l1 c1] 25)).heap.size) := Lib.hid B1a.out.size
          go_wp2_with (first | (at_builtin; refine wpList_append_tree rfl (.tmp 19) (.tmp 22) rfl w.heap.size _ xs (by simp [Act.eval, Act.put]) OW1a.out HL1.out HB1.out w1.heap.size _ _ _ _ _ _ (by simp [Act.eval, Act.put]) HZ.out ⟨rfl, rfl, rfl, rfl, rfl⟩ (by go_cell) (by go_cell) (by go_cell) (by go_cell) (by go_cell) ?_; intro v9 ao9 cap9 w9 hv9 ho9 hg9; refine Hid.out ?_) | fail)
          subst hv9
          have hgr := At.grow HA0.out A1a.out B1a.out (grownBy_froms hg9 (fun b e => (OW1a.out.lo b e).1) HLT.out HB1.out)
          have HNX : Hid (SmtAt R L w d st w9 s1 (xs ++ [.mk k1 a1 t1 n1 q1]) _) := Lib.hid ⟨hgr.1, hgr.2, ho9, HLEN.out, fun ys s' ht => by have e := HR.out.go _ _ (stmts_cons HR.out.hat.fine HBG.out HS1.out ht); rw [List.append_assoc]; exact e⟩
          clear hgr ho9 hg9
          refine Lib.hid ?_
          go_wp2
          go_roundw
          case rel => exact ⟨s1, xs ++ [.mk k1 a1 t1 n1 q1], ao9, cap9, by rw [List.length_append]; rfl, HNX.out⟩
          case measure =>
            obtain ⟨l1, e1, e2⟩ := beg_text HTL.out HBG.out
            have e3 := e2 HR.out.hat
            have g1 := remW_ok (e1 ▸ HR.out.hat)
            have g2 := remW_le HNX.out.hat
            have g3 := stmt_rem e3 (e1 ▸ HS1.out)
            rw [g1]
            omega
        | false =>
          cases h3 : tIs L s ⟨#[97, 115, 115, 101, 114, 116]⟩ with
          | true =>
            rw [tIs_lit h3] at CS
            have HC0 := Lib.hid h0; have HC1 := Lib.hid h1; have HC2 := Lib.hid h2; have HC3 := Lib.hid h3; have HBG : Hid (begS L s) := Lib.hid (.inr (.inr (.inr (.inl h3))))
            clear h0 h1 h2 h3
            have hlk := fun d os => look_hit (hmap d os) ⟨#[97, 115, 115, 101, 114, 116]⟩ 3 (.func (.func 125) #[] #[.pointer (some ⟨q, 0, none⟩)]) (find_3 _ _ _ _ _ _ _ _ _ _)
            have KS' := Lib.hid CS
            clear CS hmap hrel
            go_wp2_with fail
            refine wp_region_quiet_below (by kernel_rfl) (by kernel_rfl) ?_
            quiet_step (fail)
            quiet_step (fail)
            quiet_step (fail)
            quiet_step (fail)
            quiet_step (fail)
            quiet_step (exact KS'.out _ _)
            quiet_step (fail)
            quiet_step (fail)
            quiet_step (fail)
            quiet_step (fail)
            quiet_step (fail)
            quiet_step (fail)
            refine wpQuiet_nil ?_
            intro _ hw'
            obtain ⟨⟨dq, osq⟩, hw''⟩ := hw'
            subst hw''
            have A0 := Lib.hid (HR.out.hat.below (below_regrown wr dq osq)); have B0 := Lib.hid (HR.out.hb.trans (Butt.of_below HR.out.hat.fix.lt (below_regrown wr dq osq)))
            have OW := Lib.hid (HR.out.own.keep (Nat.le_refl _) (From.of_below (below_regrown wr dq osq)))
            clear hc6 hlk
            generalize grow (redrawn wr dq) osq = wq at *
            go_wp2_with (go_at_call 125; refine (KK3.out q s HSR.out HC0.out HC1.out HC2.out HC3.out _ A0.out ((B0.out.cell (p := ⟨q, 0, none⟩) HQL.out HQR.out).trans HQ.out) HQR.out (Nat.lt_of_lt_of_le HQL.out B0.out.size)).mono ?_; rintro e w1 ⟨x1, v1, s1, rfl, hx1, hs1, ha1, hb1⟩; refine Hid.out ?_)
            obtain ⟨k1, a1, t1, n1, o1, l1, c1, q1, rfl, rfl, hk1⟩ := hx1.shape
            have HS1 := Lib.hid hs1
            have HOFF := Lib.hid (OW.out.off (Nat.le_refl _) hx1 B0.out.size)
            have HLEN : Hid ((xs ++ [Syn.mk k1 a1 t1 n1 q1]).length + s1.rem ≤ st.rem) := Lib.hid (by
              obtain ⟨l1, e1, e2⟩ := beg_text HTL.out HBG.out
              have e3 := e2 HR.out.hat
              have g1 := HR.out.len
              have g2 := stmt_rem e3 (e1 ▸ HS1.out)
              rw [e1, show (RSt.ok l1).rem = l1.length from rfl] at g1
              rw [List.length_append, show [Syn.mk k1 a1 t1 n1 q1].length = 1 from rfl]
              omega)
            have TR1 := Lib.hid (synIn.of (ps := []) hx1 (Nat.le_trans (Nat.le_refl _) B0.out.size) (by simp))
            have A1 := Lib.hid ha1; have B1 := Lib.hid (B0.out.trans hb1)
            have OW1 := Lib.hid (OW.out.keep (Nat.le_refl _) (hb1.froms HLT.out))
            clear ha1 hb1 hx1 hk1 hs1
            refine Lib.hid ?_
            have A1a := Lib.hid (A1.out.alloc (Obj.cells #[.int .i64 k1, .int .i64 a1, .string t1, .int .i64 n1, .slice o1 l1 c1] 25)); have B1a := Lib.hid (B1.out.alloc HRW.out (Obj.cells #[.int .i64 k1, .int .i64 a1, .string t1, .int .i64 n1, .slice o1 l1 c1] 25))
            have TR11a := Lib.hid (TR1.out.butt HLT.out (Butt.of_below A1.out.fix.lt ((Below.refl _ _).alloc (Nat.le_refl _) (Obj.cells #[.int .i64 k1, .int .i64 a1, .string t1, .int .i64 n1, .slice o1 l1 c1] 25))))
            have OW1a := Lib.hid (OW1.out.keep (Nat.le_refl _) (From.of_below ((Below.refl _ _).alloc (Nat.le_refl _) (Obj.cells #[.int .i64 k1, .int .i64 a1, .string t1, .int .i64 n1, .slice o1 l1 c1] 25))))
            have HZ := Lib.hid (HOFF.out.below ((Below.refl _ _).alloc (Nat.le_refl _) (Obj.cells #[.int .i64 k1, .int .i64 a1, .string t1, .int .i64 n1, .slice o1 l1 c1] 25)))
            have HL1 : Hid (xs.length ≤ 1200000) := Lib.hid (by have := HR.out.len; have := HRA.out; omega)
            have HB1 : Hid (w.heap.size ≤ (w1.alloc (Obj.cells #[.int .i64 k1, .int .i64 a1, .string t1, .int .i64 n1, .slice o1 l1 c1] 25)).heap.size) := Lib.hid B1a.out.size
            go_wp2_with (first | (at_builtin; refine wpList_append_tree rfl (.tmp 19) (.tmp 22) rfl w.heap.size _ xs (by simp [Act.eval, Act.put]) OW1a.out HL1.out HB1.out w1.heap.size _ _ _ _ _ _ (by simp [Act.eval, Act.put]) HZ.out ⟨rfl, rfl, rfl, rfl, rfl⟩ (by go_cell) (by go_cell) (by go_cell) (by go_cell) (by go_cell) ?_; intro v9 ao9 cap9 w9 hv9 ho9 hg9; refine Hid.out ?_) | fail)
            subst hv9
            have hgr := At.grow HA0.out A1a.out B1a.out (grownBy_froms hg9 (fun b e => (OW1a.out.lo b e).1) HLT.out HB1.out)
            have HNX : Hid (SmtAt R L w d st w9 s1 (xs ++ [.mk k1 a1 t1 n1 q1]) _) := Lib.hid ⟨hgr.1, hgr.2, ho9, HLEN.out, fun ys s' ht => by have e := HR.out.go _ _ (stmts_cons HR.out.hat.fine HBG.out HS1.out ht); rw [List.append_assoc]; exact e⟩
            clear hgr ho9 hg9
            refine Lib.hid ?_
            go_wp2
            go_roundw
            case rel => exact ⟨s1, xs ++ [.mk k1 a1 t1 n1 q1], ao9, cap9, by rw [List.length_append]; rfl, HNX.out⟩
            case measure =>
              obtain ⟨l1, e1, e2⟩ := beg_text HTL.out HBG.out
              have e3 := e2 HR.out.hat
              have g1 := remW_ok (e1 ▸ HR.out.hat)
              have g2 := remW_le HNX.out.hat
              have g3 := stmt_rem e3 (e1 ▸ HS1.out)
              rw [g1]
              omega
          | false =>
            cases h4 : tIs L s ⟨#[97, 115, 115, 117, 109, 101]⟩ with
            | true =>
              rw [tIs_lit h4] at CS
              have HC0 := Lib.hid h0; have HC1 := Lib.hid h1; have HC2 := Lib.hid h2; have HC3 := Lib.hid h3; have HC4 := Lib.hid h4; have HBG : Hid (begS L s) := Lib.hid (.inr (.inr (.inr (.inr h4))))
              clear h0 h1 h2 h3 h4
              have hlk := fun d os => look_hit (hmap d os) ⟨#[97, 115, 115, 117, 109, 101]⟩ 4 (.func (.func 127) #[] #[.pointer (some ⟨q, 0, none⟩)]) (find_4 _ _ _ _ _ _ _ _ _ _)
              have KS' := Lib.hid CS
              clear CS hmap hrel
              go_wp2_with fail
              refine wp_region_quiet_below (by kernel_rfl) (by kernel_rfl) ?_
              quiet_step (fail)
              quiet_step (fail)
              quiet_step (fail)
              quiet_step (fail)
              quiet_step (fail)
              quiet_step (exact KS'.out _ _)
              quiet_step (fail)
              quiet_step (fail)
              quiet_step (fail)
              quiet_step (fail)
              quiet_step (fail)
              quiet_step (fail)
              refine wpQuiet_nil ?_
              intro _ hw'
              obtain ⟨⟨dq, osq⟩, hw''⟩ := hw'
              subst hw''
              have A0 := Lib.hid (HR.out.hat.below (below_regrown wr dq osq)); have B0 := Lib.hid (HR.out.hb.trans (Butt.of_below HR.out.hat.fix.lt (below_regrown wr dq osq)))
              have OW := Lib.hid (HR.out.own.keep (Nat.le_refl _) (From.of_below (below_regrown wr dq osq)))
              clear hc6 hlk
              generalize grow (redrawn wr dq) osq = wq at *
              go_wp2_with (go_at_call 127; refine (KK4.out q s HSR.out HC0.out HC1.out HC2.out HC3.out HC4.out _ A0.out ((B0.out.cell (p := ⟨q, 0, none⟩) HQL.out HQR.out).trans HQ.out) HQR.out (Nat.lt_of_lt_of_le HQL.out B0.out.size)).mono ?_; rintro e w1 ⟨x1, v1, s1, rfl, hx1, hs1, ha1, hb1⟩; refine Hid.out ?_)
              obtain ⟨k1, a1, t1, n1, o1, l1, c1, q1, rfl, rfl, hk1⟩ := hx1.shape
              have HS1 := Lib.hid hs1
              have HOFF := Lib.hid (OW.out.off (Nat.le_refl _) hx1 B0.out.size)
              have HLEN : Hid ((xs ++ [Syn.mk k1 a1 t1 n1 q1]).length + s1.rem ≤ st.rem) := Lib.hid (by
                obtain ⟨l1, e1, e2⟩ := beg_text HTL.out HBG.out
                have e3 := e2 HR.out.hat
                have g1 := HR.out.len
                have g2 := stmt_rem e3 (e1 ▸ HS1.out)
                rw [e1, show (RSt.ok l1).rem = l1.length from rfl] at g1
                rw [List.length_append, show [Syn.mk k1 a1 t1 n1 q1].length = 1 from rfl]
                omega)
              have TR1 := Lib.hid (synIn.of (ps := []) hx1 (Nat.le_trans (Nat.le_refl _) B0.out.size) (by simp))
              have A1 := Lib.hid ha1; have B1 := Lib.hid (B0.out.trans hb1)
              have OW1 := Lib.hid (OW.out.keep (Nat.le_refl _) (hb1.froms HLT.out))
              clear ha1 hb1 hx1 hk1 hs1
              refine Lib.hid ?_
              have A1a := Lib.hid (A1.out.alloc (Obj.cells #[.int .i64 k1, .int .i64 a1, .string t1, .int .i64 n1, .slice o1 l1 c1] 25)); have B1a := Lib.hid (B1.out.alloc HRW.out (Obj.cells #[.int .i64 k1, .int .i64 a1, .string t1, .int .i64 n1, .slice o1 l1 c1] 25))
              have TR11a := Lib.hid (TR1.out.butt HLT.out (Butt.of_below A1.out.fix.lt ((Below.refl _ _).alloc (Nat.le_refl _) (Obj.cells #[.int .i64 k1, .int .i64 a1, .string t1, .int .i64 n1, .slice o1 l1 c1] 25))))
              have OW1a := Lib.hid (OW1.out.keep (Nat.le_refl _) (From.of_below ((Below.refl _ _).alloc (Nat.le_refl _) (Obj.cells #[.int .i64 k1, .int .i64 a1, .string t1, .int .i64 n1, .slice o1 l1 c1] 25))))
              have HZ := Lib.hid (HOFF.out.below ((Below.refl _ _).alloc (Nat.le_refl _) (Obj.cells #[.int .i64 k1, .int .i64 a1, .string t1, .int .i64 n1, .slice o1 l1 c1] 25)))
              have HL1 : Hid (xs.length ≤ 1200000) := Lib.hid (by have := HR.out.len; have := HRA.out; omega)
              have HB1 : Hid (w.heap.size ≤ (w1.alloc (Obj.cells #[.int .i64 k1, .int .i64 a1, .string t1, .int .i64 n1, .slice o1 l1 c1] 25)).heap.size) := Lib.hid B1a.out.size
              go_wp2_with (first | (at_builtin; refine wpList_append_tree rfl (.tmp 19) (.tmp 22) rfl w.heap.size _ xs (by simp [Act.eval, Act.put]) OW1a.out HL1.out HB1.out w1.heap.size _ _ _ _ _ _ (by simp [Act.eval, Act.put]) HZ.out ⟨rfl, rfl, rfl, rfl, rfl⟩ (by go_cell) (by go_cell) (by go_cell) (by go_cell) (by go_cell) ?_; intro v9 ao9 cap9 w9 hv9 ho9 hg9; refine Hid.out ?_) | fail)
              subst hv9
              have hgr := At.grow HA0.out A1a.out B1a.out (grownBy_froms hg9 (fun b e => (OW1a.out.lo b e).1) HLT.out HB1.out)
              have HNX : Hid (SmtAt R L w d st w9 s1 (xs ++ [.mk k1 a1 t1 n1 q1]) _) := Lib.hid ⟨hgr.1, hgr.2, ho9, HLEN.out, fun ys s' ht => by have e := HR.out.go _ _ (stmts_cons HR.out.hat.fine HBG.out HS1.out ht); rw [List.append_assoc]; exact e⟩
              clear hgr ho9 hg9
              refine Lib.hid ?_
              go_wp2
              go_roundw
              case rel => exact ⟨s1, xs ++ [.mk k1 a1 t1 n1 q1], ao9, cap9, by rw [List.length_append]; rfl, HNX.out⟩
              case measure =>
                obtain ⟨l1, e1, e2⟩ := beg_text HTL.out HBG.out
                have e3 := e2 HR.out.hat
                have g1 := remW_ok (e1 ▸ HR.out.hat)
                have g2 := remW_le HNX.out.hat
                have g3 := stmt_rem e3 (e1 ▸ HS1.out)
                rw [g1]
                omega
            | false =>
              have HBG : Hid (¬ begS L s) := Lib.hid (by rintro (h | h | h | h | h) <;> simp_all)
              have e0 : (cur L s).t ≠ ⟨#[110, 97, 109, 101]⟩ := fun e => by
                obtain ⟨hf, nx, a, er, g1, g2, g3⟩ := hrel.hat
                rw [cur_of g1 g3] at e h0
                exact absurd (h0.symm.trans (HNM.out nx e)) (by decide)
              have e1 := tIs_no h1; have e2 := tIs_no h2; have e3 := tIs_no h3; have e4 := tIs_no h4
              clear h0 h1 h2 h3 h4
              have hlk := fun d os => look_miss (hmap d os) (cur L s).t (find_none _ _ _ _ _ _ _ _ _ _ _ e0 e1 e2 e3 e4)
              generalize (cur L s).t = TX at *
              have KS' := Lib.hid CS
              clear CS hmap hrel
              go_wp2_with fail
              refine wp_region_quiet_below (by kernel_rfl) (by kernel_rfl) ?_
              quiet_step (fail)
              quiet_step (fail)
              quiet_step (fail)
              quiet_step (fail)
              quiet_step (fail)
              quiet_step (exact KS'.out _ _)
              quiet_step (fail)
              quiet_step (fail)
              quiet_step (fail)
              quiet_step (fail)
              quiet_step (fail)
              quiet_step (fail)
              refine wpQuiet_nil ?_
              intro _ hw'
              obtain ⟨⟨dq, osq⟩, hw''⟩ := hw'
              subst hw''
              have A0 := Lib.hid (HR.out.hat.below (below_regrown wr dq osq)); have B0 := Lib.hid (HR.out.hb.trans (Butt.of_below HR.out.hat.fix.lt (below_regrown wr dq osq)))
              have OW := Lib.hid (HR.out.own.keep (Nat.le_refl _) (From.of_below (below_regrown wr dq osq)))
              clear hc6 hlk
              generalize grow (redrawn wr dq) osq = wq at *
              go_wp2
              go_ret
              exact ⟨xs, _, _, rfl, OW.out, by have := HR.out.len; omega, by have e := HR.out.go _ _ (stmts_nil HR.out.hat.fine HBG.out); rw [List.append_nil] at e; exact e, A0.out, B0.out⟩
end Go.Proofs.YtdibcllakkjegaaGreatDoor
