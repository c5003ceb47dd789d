import Derived.Test.YtjjkabgbcflipaaCu19
set_option linter.unusedSimpArgs false
set_option linter.unusedVariables false
namespace Go.Proofs.Ytjjkabgbcflipaa
open Go Go.Proofs Go.RowKit GM

set_option maxRecDepth 20000 in
set_option maxHeartbeats 1000000 in
theorem leaving_any {A : Nat → Prop} (P : Nat) (x : Int) (ao : Option Addr) (c : Nat) (E : List Ed) (w : World) (hr : ERow A w ao c E) (hP : P ≤ 512) (hlen : E.length ≤ 1024) (hpts : ∀ j, j < E.length → isPt P (edD E j).f = true) :
    Calls Try.prog 48 #[.agg #[.int .i64 (P : Int), .int .i64 x, .slice ao E.length c]] w fun e w' => e = .returned (.slice (some ⟨w.heap.size + 1, 0, none⟩) P P) ∧ (∃ vs, LvAt (w.heap.size + 1 + 1) w' (w.heap.size + 1) P vs (lvN P (fun d => d.f) E E.length)) ∧ Below w.heap.size w w' := by
  have hat : ∀ j, j < E.length → ∃ b o, ao = some ⟨b, o, none⟩ ∧ b < w.heap.size ∧ EdAt w b (o + j * 21) (edD E j) ∧ (edD E j).ok := fun j hj => by
    obtain ⟨b, o, e, -, h1, h2⟩ := hr.get j hj
    exact ⟨b, o, e, h1, h2⟩
  have hX := GBx.new w P x ao E.length c
  have hmk := make_rows (w.alloc (Obj.cells #[.int .i64 (P : Int), .int .i64 x, .slice ao E.length c] 24)) P (by omega)
  have hz : (w.alloc (Obj.cells #[.int .i64 (P : Int), .int .i64 x, .slice ao E.length c] 24)).heap.size = w.heap.size + 1 := by simp
  have hc := fun k hk => made_cell (w.alloc (Obj.cells #[.int .i64 (P : Int), .int .i64 x, .slice ao E.length c] 24)) P nilS 51 k hk
  have hf := made_free (w.alloc (Obj.cells #[.int .i64 (P : Int), .int .i64 x, .slice ao E.length c] 24)) P nilS 51
  rw [hz] at hmk hc hf
  have hLn := LvAt.new (W := ((w.alloc (Obj.cells #[.int .i64 (P : Int), .int .i64 x, .slice ao E.length c] 24)).alloc (.cells (Array.replicate P nilS) 51))) (lo := w.heap.size + 1 + 1) hc hf (by simp) (by omega)
  have hbl : Below w.heap.size w ((w.alloc (Obj.cells #[.int .i64 (P : Int), .int .i64 x, .slice ao E.length c] 24)).alloc (.cells (Array.replicate P nilS) 51)) := ((Below.refl _ _).alloc (Nat.le_refl _) _).alloc (by simp) _
  have hX2 := hX.below ((Below.refl (w.alloc (Obj.cells #[.int .i64 (P : Int), .int .i64 x, .slice ao E.length c] 24)).heap.size (w.alloc (Obj.cells #[.int .i64 (P : Int), .int .i64 x, .slice ao E.length c] 24))).alloc (Nat.le_refl _) (.cells (Array.replicate P nilS) 51))
  have HAT := Lib.hid hat; have HPT := Lib.hid hpts; have HL := Lib.hid hlen; have HX := Lib.hid hX2; have HLN := Lib.hid hLn; have HBL := Lib.hid hbl
  have HZ : Hid (((w.alloc (Obj.cells #[.int .i64 (P : Int), .int .i64 x, .slice ao E.length c] 24)).alloc (.cells (Array.replicate P nilS) 51)).heap.size = w.heap.size + 1 + 1) := Lib.hid (by simp)
  obtain ⟨y0, y1, y2, y3⟩ := hX
  have m0 : (0 : Int) ≤ (P : Int) := by omega
  clear hr hat hpts hX2 hLn hbl hc hf
  go_enter Try.func48, Try.ntmps48
  go_wp2_with fail
  clear hmk y0 y1 y2 y3 hz
  generalize ((w.alloc (Obj.cells #[.int .i64 (P : Int), .int .i64 x, .slice ao E.length c] 24)).alloc (.cells (Array.replicate P nilS) 51)) = W at *
  go_loopw [4] (fun iv wr => ∃ (j : Nat) (vs : List Value), j ≤ E.length ∧ iv = .int .i64 (j : Int) ∧ LvAt (w.heap.size + 1 + 1) wr (w.heap.size + 1) P vs (lvN P (fun d => d.f) E j) ∧ Below (w.heap.size + 1) W wr) (fun iv _ => E.length - (intOf iv).toNat)
  case atStart => exact ⟨0, _, Nat.zero_le _, rfl, by rw [lvN_zero]; exact HLN.out, Below.refl _ _⟩
  case round =>
    obtain ⟨j, vs, hj, rfl, hlv, hB⟩ := hrel
    have HV := Lib.hid hlv; have HB := Lib.hid hB; clear hlv hB
    have z2 := (HB.out.cell (p := ⟨w.heap.size, 2, none⟩) (by dsimp only; omega)).trans HX.out.c2
    by_cases hlt : j < E.length
    · have HLT := Lib.hid hlt
      obtain ⟨b, o, rfl, hbl, he, hok⟩ := HAT.out j hlt
      have hp := isPt_true (HPT.out j hlt)
      obtain ⟨s, hs⟩ : ∃ s : Nat, (edD E j).f = (s : Int) := ⟨(edD E j).f.toNat, by omega⟩
      have hsP : s < P := by omega
      have hup := lvN_succ (P := P) (fun d => d.f) E j hsP hs
      have hrl := lvN_row_len (P := P) (p := s) (fun d => d.f) E j
      have he2 : w.heap.size + 1 + 1 ≤ wr.heap.size := by have := HZ.out; have := HB.out.size; omega
      have c1 : wr.cell? ⟨b, o + j * 21, none⟩ = some (.int .i64 (s : Int)) := by
        have e1 := he.below' HBL.out hbl
        have e2 := (HB.out.cell (p := ⟨b, o + j * 21 + 0, none⟩) (by dsimp only; omega)).trans (e1 0 (.int .i64 (edD E j).f) rfl)
        rw [hs] at e2; exact e2
      have C1 := Lib.hid c1; have Z2 := Lib.hid z2; have HS := Lib.hid hsP; have HUP := Lib.hid hup; have HRL := Lib.hid hrl; have HE2 := Lib.hid he2; have HBLL := Lib.hid hbl
      have j1 : (j : Int) < (E.length : Int) := by omega
      have j0 : (0 : Int) ≤ (j : Int) := by omega
      clear he hok hp hs hsP hup hrl he2 c1 hbl
      go_wp2_with fail
      refine rl_region (w.heap.size + 1 + 1) (w.heap.size + 1) P s w.heap.size b o E.length c j vs (lvN P (fun d => d.f) E j) _ _ _ _ _ _ _ _ _ _ _ _ _ _ _ _ _ _ _ _ _ _ _ _ _ _ _ _ _ _ _ _ _ _ HS.out hP (by have := HRL.out; omega) HLT.out hlen (by have := HE2.out; omega) Z2.out (by have := HE2.out; have := HBLL.out; omega) C1.out HV.out HE2.out (by omega) (by have := HBLL.out; omega) ?_
      intro u15 u16 u17 u18 u19 u20 u21 u22 u23 u24 u25 u26 u27 u28 u29 u30 u31 u32 u33 u34 w5 hq h0 h1 h2 h3 h4 h5 h6 h7 h8 h9 h10 h11 h12 h13 h14 h15 h16 h19
      obtain ⟨hlv5, hb5⟩ := hq
      have hbel : Below (w.heap.size + 1) W w5 := HB.out.trans ⟨hb5.os, hb5.tape, hb5.output, hb5.size, fun k hk => hb5.block k (by have := HE2.out; omega) (fun e => by
        rcases e with e | e
        · have := ((HV.out.row s HS.out).lt e).1; omega
        · omega)⟩
      have H5 := Lib.hid hlv5; have HB6 := Lib.hid hbel
      clear h0 h1 h2 h3 h4 h5 h6 h7 h8 h9 h10 h11 h12 h13 h14 h15 h16 h19 hlv5 hb5 hbel
      unfold rlAct
      have hL3 : j < E.length := HLT.out
      go_wp2
      go_roundw
      case rel => exact ⟨j + 1, _, by omega, by go_num, by rw [HUP.out]; exact H5.out, HB6.out⟩
      case measure => simp [intOf]; omega
    · have hjn : j = E.length := by omega
      subst hjn
      go_wp2
      go_ret
      exact ⟨rfl, ⟨vs, HV.out⟩, HBL.out.trans (HB.out.mono (by omega))⟩
end Go.Proofs.Ytjjkabgbcflipaa
namespace Go.Proofs.Ytjjkabgbcflipaa
open Go Go.Proofs Go.RowKit GM

/-- What the reference's Out answers. -/
def ROutQ (n x : Int) (E : List Ed) (w : World) : Ending → World → Prop := fun e w' => Below w.heap.size w w' ∧
  ((ckG n x E ≠ 0 ∧ e = .returned (.tuple #[nilS, .int .i64 (ckG n x E : Nat)])) ∨
   (ckG n x E = 0 ∧ ∃ LB lo vs, e = .returned (.tuple #[.slice (some ⟨LB, 0, none⟩) n.toNat n.toNat, .int .i64 0]) ∧ w.heap.size ≤ LB ∧ LvAt lo w' LB n.toNat vs (lvN n.toNat (fun d => d.f) E E.length)))
/-- A table of own rows can be read. -/
theorem LvAt.read {lo LB P : Nat} {fr : Ed → Int} {W : World} {vs : List Value} {E : List Ed} (h : LvAt lo W LB P vs (lvN P fr E E.length)) : TBx (fun b => lo ≤ b) W (.slice (some ⟨LB, 0, none⟩) P P) (lsN P fr E) := by
  have hl : (lsN P fr E).length = P := by simp [lsN]
  refine ⟨_, P, by rw [hl], fun p hp => ?_⟩
  rw [hl] at hp
  refine ⟨LB, _, rfl, h.lt, h.tab p hp, ?_⟩
  have hr := h.row p hp
  rw [lvN_at fr E _ hp] at hr
  rw [lsN_at fr E hp]
  exact IR.of_own hr (fun b e => (hr.lt e).1)
theorem TB.read {lo P : Nat} {W : World} {vl : Value} {ls : List (List Nat)} (h : TB lo W vl P ls) (hl : ls.length = P) : TBx (fun b => lo ≤ b) W vl ls := by
  obtain ⟨b, c, e, h1, h2, h3⟩ := h
  refine ⟨_, c, by rw [e, hl], fun p hp => ?_⟩
  obtain ⟨rv, e1, e2⟩ := h3 p (by omega)
  exact ⟨b, rv, rfl, h2, e1, e2⟩
set_option maxRecDepth 20000 in
set_option maxHeartbeats 4000000 in
theorem refOut_any {A : Nat → Prop} (n x : Int) (ao : Option Addr) (c : Nat) (E : List Ed) (w : World) (hr : ERow A w ao c E) :
    Calls Try.prog 16 #[.agg #[.int .i64 n, .int .i64 x, .slice ao E.length c]] w (ROutQ n x E w) := by
  have hA : Below w.heap.size w (w.alloc (Obj.cells #[.int .i64 n, .int .i64 x, .slice ao E.length c] 24)) := (Below.refl _ _).alloc (Nat.le_refl _) _
  have hX := GBx.new w n x ao E.length c
  have CC := fun W hW => refCheck_any n x ao c E W (hr.keep (B := A) (But.of_below (S := fun _ => False) (w' := W) hW) (fun _ h _ => ⟨id, h⟩))
  have KA' := Lib.hid hA; have HX := Lib.hid hX; have KC := Lib.hid CC; have HR := Lib.hid hr
  clear hA hX CC hr
  by_cases h0 : ckG n x E = 0
  rotate_left
  · obtain ⟨K, hK⟩ : ∃ K, ckG n x E = K := ⟨_, rfl⟩
    have HK := Lib.hid hK
    rw [hK] at h0
    have t1 : ((K : Int) != 0) = true := by rw [bne_iff_ne]; omega
    have H0 := Lib.hid h0
    clear h0 hK
    have k1 := KC.out _ KA'.out
    rw [HK.out] at k1
    have K1 := Lib.hid k1; clear k1 KC
    go_enter Try.func16, Try.ntmps16
    go_wp2_with (go_at_call 22; refine (K1.out).mono ?_; rintro e w1 ⟨rfl, hb⟩; refine Hid.out ?_)
    have HB := Lib.hid (Below.chain KA'.out hb); clear hb
    refine Lib.hid ?_
    go_wp2
    refine bodyPost_ret (by first | (simp [results, Try.results16, go_sem]; done) | (simp [results, Try.results16, go_sem]; rfl)) rfl ?_
    exact ⟨HB.out, .inl ⟨by rw [HK.out]; exact H0.out, by rw [HK.out]⟩⟩
  · have k1 := KC.out _ KA'.out
    rw [h0] at k1
    have K1 := Lib.hid k1; clear k1
    obtain ⟨hn1, hn2, -⟩ := ckG_pos h0
    obtain ⟨P, rfl⟩ := Int.eq_ofNat_of_zero_le (show 0 ≤ n by omega)
    obtain ⟨-, hn3, hlen, hpts⟩ := ckG_ok h0
    have H0 := Lib.hid h0
    have k2 := fun W hW => leaving_any P x ao c E W (HR.out.keep (B := A) (But.of_below (S := fun _ => False) (w' := W) hW) (fun _ h _ => ⟨id, h⟩)) hn3 hlen (fun j hj => (hpts j hj).1)
    have K2 := Lib.hid k2
    clear KC k2 h0 hpts
    go_enter Try.func16, Try.ntmps16
    go_wp2_with (go_at_call 22; refine (K1.out).mono ?_; rintro e w1 ⟨rfl, hb⟩; refine Hid.out ?_)
    have HB := Lib.hid (Below.chain KA'.out hb)
    obtain ⟨y0, y1, y2, y3⟩ := HX.out.below hb
    clear hb
    refine Lib.hid ?_
    go_wp2_with (first | (go_at_call 48; refine (K2.out _ HB.out).mono ?_; rintro e w2 ⟨rfl, ⟨vs, hlv⟩, hb⟩; refine Hid.out ?_) | fail)
    have HB2 := Lib.hid (Below.chain HB.out hb)
    have HV := Lib.hid hlv; have HZ := Lib.hid HB.out.size
    clear hb hlv y0 y1 y2 y3
    refine Lib.hid ?_
    go_wp2
    refine bodyPost_ret (by first | (simp [results, Try.results16, go_sem]; done) | (simp [results, Try.results16, go_sem]; rfl)) rfl ?_
    exact ⟨HB2.out, .inr ⟨H0.out, _, _, vs, rfl, by have := HZ.out; omega, HV.out⟩⟩
end Go.Proofs.Ytjjkabgbcflipaa
namespace Go.Proofs.Ytjjkabgbcflipaa
open Go Go.Proofs Go.RowKit GM

def gcAct (b1 n1 c1 b2 n2 c2 : Nat) (q2 q3 u4 u5 u6 u7 u8 u9 u10 u11 : Value) : Act :=
  { tmps := #[.slice (some ⟨b1, 0, none⟩) n1 c1, .slice (some ⟨b2, 0, none⟩) n2 c2, q2, q3, u4, u5, u6, u7, u8, u9, u10, u11], defers := [] }
def gcI (b1 n1 c1 b2 n2 c2 : Nat) (x y : Int) (q2 q3 : Value) (W0 : World) (listed : Array Bool) (a : Act) (w : World) : Prop :=
  ∃ u4 u5 u6 u7 u8 u9 u10 u11, a = gcAct b1 n1 c1 b2 n2 c2 q2 q3 u4 u5 u6 u7 u8 u9 u10 u11 ∧ w = W0.drew ∧
    (listed.getD 0 false = true → u5 = .slice (some ⟨b1, 0, none⟩) n1 c1) ∧
    (listed.getD 1 false = true → u6 = .pointer (some ⟨b1, 0, none⟩)) ∧
    (listed.getD 2 false = true → u7 = .int .i64 x) ∧
    (listed.getD 3 false = true → u8 = .slice (some ⟨b2, 0, none⟩) n2 c2) ∧
    (listed.getD 4 false = true → u9 = .pointer (some ⟨b2, 0, none⟩)) ∧
    (listed.getD 5 false = true → u10 = .int .i64 y) ∧
    (listed.getD 6 false = true → u11 = .int .i64 (Lib.compareInt x y)) ∧
    (listed.getD 7 false = true → u4 = .int .i64 (Lib.compareInt x y))
set_option maxRecDepth 20000 in
set_option maxHeartbeats 4000000 in
theorem gc_region (b1 n1 c1 b2 n2 c2 : Nat) (x y : Int) (q2 q3 : Value) (W0 : World) (h1n : 0 < n1) (h2n : 0 < n2) (hx : W0.cell? ⟨b1, 0, none⟩ = some (.int .i64 x)) (hy : W0.cell? ⟨b2, 0, none⟩ = some (.int .i64 y)) (cc : ∀ W, Calls Try.prog 95 #[.int .i64 x, .int .i64 y] W fun e w' => e = .returned (.int .i64 (Lib.compareInt x y)) ∧ w' = W) {Q : Exit → Act → World → Prop}
    (hQ : ∀ u4 u5 u6 u7 u8 u9 u10 u11 w, w = W0.drew → (u5 = .slice (some ⟨b1, 0, none⟩) n1 c1) → (u6 = .pointer (some ⟨b1, 0, none⟩)) → (u7 = .int .i64 x) → (u8 = .slice (some ⟨b2, 0, none⟩) n2 c2) → (u9 = .pointer (some ⟨b2, 0, none⟩)) → (u10 = .int .i64 y) → (u11 = .int .i64 (Lib.compareInt x y)) → (u4 = .int .i64 (Lib.compareInt x y)) → Q .normal (gcAct b1 n1 c1 b2 n2 c2 q2 q3 u4 u5 u6 u7 u8 u9 u10 u11) w) :
    (Code.region 1 #[{ dst := some 5, op := Op.move (Operand.tmp 0), type := 51, pos := "component.go:40", after := #[], guard := none }, { dst := some 6, op := Op.indexAddr 51 (Operand.tmp 5) (Operand.const (Value.int IntKind.i64 0)), type := 0, pos := "component.go:40", after := #[{ on := 0, ground := Ground.data }], guard := none }, { dst := some 7, op := Op.load 3 (Operand.tmp 6), type := 3, pos := "component.go:40", after := #[{ on := 1, ground := Ground.data }], guard := none }, { dst := some 8, op := Op.move (Operand.tmp 1), type := 51, pos := "component.go:40", after := #[], guard := none }, { dst := some 9, op := Op.indexAddr 51 (Operand.tmp 8) (Operand.const (Value.int IntKind.i64 0)), type := 0, pos := "component.go:40", after := #[{ on := 3, ground := Ground.data }], guard := none }, { dst := some 10, op := Op.load 3 (Operand.tmp 9), type := 3, pos := "component.go:40", after := #[{ on := 4, ground := Ground.data }], guard := none }, { dst := some 11, op := Op.call { callee := Callee.value (Operand.func 95), args := #[Operand.tmp 7, Operand.tmp 10], argTypes := #[3, 3] }, type := 3, pos := "component.go:40", after := #[{ on := 2, ground := Ground.data }, { on := 5, ground := Ground.data }], guard := none }, { dst := some 4, op := Op.assign (Operand.tmp 11), type := 3, pos := "component.go:40", after := #[{ on := 6, ground := Ground.data }, { on := 6, ground := Ground.chain }, { on := 0, ground := Ground.phase }, { on := 1, ground := Ground.phase }, { on := 2, ground := Ground.phase }, { on := 3, ground := Ground.phase }, { on := 4, ground := Ground.phase }, { on := 5, ground := Ground.phase }, { on := 6, ground := Ground.phase }], guard := none }] true).wp Try.prog Q (gcAct b1 n1 c1 b2 n2 c2 q2 q3 (.int .i64 0) (undef) (undef) (undef) (undef) (undef) (undef) (undef)) W0 := by
  refine wp_region_inv (by kernel_rfl) (by kernel_rfl) (gcI b1 n1 c1 b2 n2 c2 x y q2 q3 W0) ?_ ?_ ?_
  · refine ⟨_, _, _, _, _, _, _, _, rfl, rfl, ?_, ?_, ?_, ?_, ?_, ?_, ?_, ?_⟩ <;> (intro e; simp at e)
  · intro listed a w i o hI hs ho hl hd
    have hi9 : i < 8 := (Array.getElem?_eq_some_iff.1 ho).1
    obtain ⟨u4, u5, u6, u7, u8, u9, u10, u11, rfl, hB, h0, h1, h2, h3, h4, h5, h6, h7⟩ := hI
    rcases (show i = 0 ∨ i = 1 ∨ i = 2 ∨ i = 3 ∨ i = 4 ∨ i = 5 ∨ i = 6 ∨ i = 7 by omega) with rfl | rfl | rfl | rfl | rfl | rfl | rfl | rfl
    · have ho' : some _ = some o := ho
      cases ho'
      have HB := Lib.hid hB
      clear hB
      unfold gcAct; go_simp
      exact ⟨u4, .slice (some ⟨b1, 0, none⟩) n1 c1, u6, u7, u8, u9, u10, u11, rfl, HB.out, fun _ => rfl, fun e1 => h1 (lset_ne (by decide) e1), fun e2 => h2 (lset_ne (by decide) e2), fun e3 => h3 (lset_ne (by decide) e3), fun e4 => h4 (lset_ne (by decide) e4), fun e5 => h5 (lset_ne (by decide) e5), fun e6 => h6 (lset_ne (by decide) e6), fun e7 => h7 (lset_ne (by decide) e7)⟩
    · have ho' : some _ = some o := ho
      cases ho'
      have d0 := hd { on := 0, ground := .data } (by simp) rfl
      have HB := Lib.hid hB
      have p1 : (0 : Int) < (n1 : Int) := by omega
      clear hB
      have e0 := h0 d0
      subst e0
      unfold gcAct; go_simp
      exact ⟨u4, .slice (some ⟨b1, 0, none⟩) n1 c1, .pointer (some ⟨b1, 0, none⟩), u7, u8, u9, u10, u11, rfl, HB.out, fun e0 => h0 (lset_ne (by decide) e0), fun _ => rfl, fun e2 => h2 (lset_ne (by decide) e2), fun e3 => h3 (lset_ne (by decide) e3), fun e4 => h4 (lset_ne (by decide) e4), fun e5 => h5 (lset_ne (by decide) e5), fun e6 => h6 (lset_ne (by decide) e6), fun e7 => h7 (lset_ne (by decide) e7)⟩
    · have ho' : some _ = some o := ho
      cases ho'
      have d1 := hd { on := 1, ground := .data } (by simp) rfl
      have HB := Lib.hid hB
      have c0 : w.cell? ⟨b1, 0, none⟩ = some (.int .i64 x) := by rw [hB]; exact hx
      clear hB
      have e1 := h1 d1
      subst e1
      unfold gcAct; go_simp
      exact ⟨u4, u5, .pointer (some ⟨b1, 0, none⟩), .int .i64 x, u8, u9, u10, u11, rfl, HB.out, fun e0 => h0 (lset_ne (by decide) e0), fun e1 => h1 (lset_ne (by decide) e1), fun _ => rfl, fun e3 => h3 (lset_ne (by decide) e3), fun e4 => h4 (lset_ne (by decide) e4), fun e5 => h5 (lset_ne (by decide) e5), fun e6 => h6 (lset_ne (by decide) e6), fun e7 => h7 (lset_ne (by decide) e7)⟩
    · have ho' : some _ = some o := ho
      cases ho'
      have HB := Lib.hid hB
      clear hB
      unfold gcAct; go_simp
      exact ⟨u4, u5, u6, u7, .slice (some ⟨b2, 0, none⟩) n2 c2, u9, u10, u11, rfl, HB.out, fun e0 => h0 (lset_ne (by decide) e0), fun e1 => h1 (lset_ne (by decide) e1), fun e2 => h2 (lset_ne (by decide) e2), fun _ => rfl, fun e4 => h4 (lset_ne (by decide) e4), fun e5 => h5 (lset_ne (by decide) e5), fun e6 => h6 (lset_ne (by decide) e6), fun e7 => h7 (lset_ne (by decide) e7)⟩
    · have ho' : some _ = some o := ho
      cases ho'
      have d3 := hd { on := 3, ground := .data } (by simp) rfl
      have HB := Lib.hid hB
      have p1 : (0 : Int) < (n2 : Int) := by omega
      clear hB
      have e3 := h3 d3
      subst e3
      unfold gcAct; go_simp
      exact ⟨u4, u5, u6, u7, .slice (some ⟨b2, 0, none⟩) n2 c2, .pointer (some ⟨b2, 0, none⟩), u10, u11, rfl, HB.out, fun e0 => h0 (lset_ne (by decide) e0), fun e1 => h1 (lset_ne (by decide) e1), fun e2 => h2 (lset_ne (by decide) e2), fun e3 => h3 (lset_ne (by decide) e3), fun _ => rfl, fun e5 => h5 (lset_ne (by decide) e5), fun e6 => h6 (lset_ne (by decide) e6), fun e7 => h7 (lset_ne (by decide) e7)⟩
    · have ho' : some _ = some o := ho
      cases ho'
      have d4 := hd { on := 4, ground := .data } (by simp) rfl
      have HB := Lib.hid hB
      have c0 : w.cell? ⟨b2, 0, none⟩ = some (.int .i64 y) := by rw [hB]; exact hy
      clear hB
      have e4 := h4 d4
      subst e4
      unfold gcAct; go_simp
      exact ⟨u4, u5, u6, u7, u8, .pointer (some ⟨b2, 0, none⟩), .int .i64 y, u11, rfl, HB.out, fun e0 => h0 (lset_ne (by decide) e0), fun e1 => h1 (lset_ne (by decide) e1), fun e2 => h2 (lset_ne (by decide) e2), fun e3 => h3 (lset_ne (by decide) e3), fun e4 => h4 (lset_ne (by decide) e4), fun _ => rfl, fun e6 => h6 (lset_ne (by decide) e6), fun e7 => h7 (lset_ne (by decide) e7)⟩
    · have ho' : some _ = some o := ho
      cases ho'
      have d2 := hd { on := 2, ground := .data } (by simp) rfl
      have d5 := hd { on := 5, ground := .data } (by simp) rfl
      have HB := Lib.hid hB
      clear hB
      have e2 := h2 d2
      subst e2
      have e5 := h5 d5
      subst e5
      unfold gcAct; go_simp
      refine (cc w).mono ?_
      rintro e w' ⟨rfl, rfl⟩
      exact ⟨u4, u5, u6, .int .i64 x, u8, u9, .int .i64 y, .int .i64 (Lib.compareInt x y), rfl, HB.out, fun e0 => h0 (lset_ne (by decide) e0), fun e1 => h1 (lset_ne (by decide) e1), fun e2 => h2 (lset_ne (by decide) e2), fun e3 => h3 (lset_ne (by decide) e3), fun e4 => h4 (lset_ne (by decide) e4), fun e5 => h5 (lset_ne (by decide) e5), fun _ => rfl, fun e7 => h7 (lset_ne (by decide) e7)⟩
    · have ho' : some _ = some o := ho
      cases ho'
      have d6 := hd { on := 6, ground := .data } (by simp) rfl
      have d6 := hd { on := 6, ground := .chain } (by simp) rfl
      have d0 := hd { on := 0, ground := .phase } (by simp) rfl
      have d1 := hd { on := 1, ground := .phase } (by simp) rfl
      have d2 := hd { on := 2, ground := .phase } (by simp) rfl
      have d3 := hd { on := 3, ground := .phase } (by simp) rfl
      have d4 := hd { on := 4, ground := .phase } (by simp) rfl
      have d5 := hd { on := 5, ground := .phase } (by simp) rfl
      have d6 := hd { on := 6, ground := .phase } (by simp) rfl
      have HB := Lib.hid hB
      clear hB
      have e0 := h0 d0
      subst e0
      have e1 := h1 d1
      subst e1
      have e2 := h2 d2
      subst e2
      have e3 := h3 d3
      subst e3
      have e4 := h4 d4
      subst e4
      have e5 := h5 d5
      subst e5
      have e6 := h6 d6
      subst e6
      unfold gcAct; go_simp
      exact ⟨.int .i64 (Lib.compareInt x y), .slice (some ⟨b1, 0, none⟩) n1 c1, .pointer (some ⟨b1, 0, none⟩), .int .i64 x, .slice (some ⟨b2, 0, none⟩) n2 c2, .pointer (some ⟨b2, 0, none⟩), .int .i64 y, .int .i64 (Lib.compareInt x y), rfl, HB.out, fun e0 => h0 (lset_ne (by decide) e0), fun e1 => h1 (lset_ne (by decide) e1), fun e2 => h2 (lset_ne (by decide) e2), fun e3 => h3 (lset_ne (by decide) e3), fun e4 => h4 (lset_ne (by decide) e4), fun e5 => h5 (lset_ne (by decide) e5), fun e6 => h6 (lset_ne (by decide) e6), fun _ => rfl⟩
  · rintro listed a w ⟨u4, u5, u6, u7, u8, u9, u10, u11, rfl, hB, h0, h1, h2, h3, h4, h5, h6, h7⟩ hall
    exact hQ _ _ _ _ _ _ _ _ w hB (h0 (hall 0 (by decide))) (h1 (hall 1 (by decide))) (h2 (hall 2 (by decide))) (h3 (hall 3 (by decide))) (h4 (hall 4 (by decide))) (h5 (hall 5 (by decide))) (h6 (hall 6 (by decide))) (h7 (hall 7 (by decide)))
set_option maxRecDepth 20000 in
set_option maxHeartbeats 400000 in
theorem groupCmp_any (b1 n1 c1 b2 n2 c2 : Nat) (x y : Int) (w : World) (h1n : 0 < n1) (h2n : 0 < n2) (hx : w.cell? ⟨b1, 0, none⟩ = some (.int .i64 x)) (hy : w.cell? ⟨b2, 0, none⟩ = some (.int .i64 y)) :
    Calls Try.prog 94 #[.slice (some ⟨b1, 0, none⟩) n1 c1, .slice (some ⟨b2, 0, none⟩) n2 c2] w fun e w' => e = .returned (.int .i64 (Lib.compareInt x y)) ∧ w' = w.drew := by
  go_enter Try.func94, Try.ntmps94
  go_wp2_with fail
  refine gc_region b1 n1 c1 b2 n2 c2 x y _ _ w h1n h2n hx hy (fun W => Try.cmp_Compare_int x y W) ?_
  intro u4 u5 u6 u7 u8 u9 u10 u11 w2 hw h0 h1 h2 h3 h4 h5 h6 h7
  clear h0 h1 h2 h3 h4 h5 h6
  subst h7 hw
  unfold gcAct
  go_wp2
  go_ret
  exact ⟨rfl, rfl⟩
end Go.Proofs.Ytjjkabgbcflipaa
namespace Go.Proofs.Ytjjkabgbcflipaa
open Go Go.Proofs Go.RowKit Go.Shelf GM

attribute [local go_sem] Oper.semAt_some

def hdG (x : Gp) : Int := ((x.l.head?.getD 0 : Nat) : Int)
/-- Visits one after the other: these points were asked for, these were found, in these parts. -/
inductive GR (nx : Nat → List Nat) : List Nat → List Nat → List (List Nat) → Prop
  | nil : GR nx [] [] []
  | old {ps t : List Nat} {us : List (List Nat)} {p : Nat} : GR nx ps t us → VL nx (fun x => x ∈ t) [p] [] → GR nx (ps ++ [p]) t us
  | new {ps t u : List Nat} {us : List (List Nat)} {p : Nat} : GR nx ps t us → VL nx (fun x => x ∈ t) [p] u → u ≠ [] → GR nx (ps ++ [p]) (t ++ u) (us ++ [u])
theorem GR.flat {nx : Nat → List Nat} {ps t : List Nat} {us : List (List Nat)} (h : GR nx ps t us) : t = us.flatten := by
  induction h with
  | nil => rfl
  | old _ _ ih => exact ih
  | new _ _ _ ih => rw [List.flatten_append, ← ih]; simp
theorem GR.nodup {nx : Nat → List Nat} {ps t : List Nat} {us : List (List Nat)} (h : GR nx ps t us) : t.Nodup := by
  induction h with
  | nil => simp
  | old _ _ ih => exact ih
  | new _ hv _ ih =>
    rw [List.nodup_append]
    exact ⟨ih, hv.nodup, fun a ha b hb e => hv.out b hb (e ▸ ha)⟩
theorem GR.ne {nx : Nat → List Nat} {ps t : List Nat} {us : List (List Nat)} (h : GR nx ps t us) : ∀ u ∈ us, u ≠ [] := by
  induction h with
  | nil => simp
  | old _ _ ih => exact ih
  | new _ _ hn ih =>
    intro u hu
    rcases List.mem_append.1 hu with hu | hu
    · exact ih u hu
    · rw [List.mem_singleton] at hu; subst hu; exact hn
theorem GR.bound {nx : Nat → List Nat} {ps t : List Nat} {us : List (List Nat)} (h : GR nx ps t us) (P : Nat) (hp : ∀ p ∈ ps, p < P) (hn : ∀ q, q < P → ∀ x ∈ nx q, x < P) : ∀ x ∈ t, x < P := by
  induction h with
  | nil => simp
  | old _ _ ih => exact ih (fun p hm => hp p (by simp [hm]))
  | @new ps t u us p _ hv _ ih =>
    intro x hx
    rcases List.mem_append.1 hx with hx | hx
    · exact ih (fun p hm => hp p (by simp [hm])) x hx
    · exact VL.bound hv P (fun q hq => by rw [List.mem_singleton] at hq; subst hq; exact hp q (by simp)) hn x hx
def sortN (u : List Nat) : List Nat := u.mergeSort fun x y => decide (x ≤ y)
theorem sortN_map (u : List Nat) : (u.map fun (n : Nat) => (n : Int)).mergeSort (fun x y => decide (x ≤ y)) = (sortN u).map fun (n : Nat) => (n : Int) := by
  unfold sortN
  rw [List.map_mergeSort (r := fun x y => decide (x ≤ y)) (s := fun x y => decide (x ≤ y)) (f := fun (n : Nat) => (n : Int))]
  intro a _ b _
  rw [decide_eq_decide]; omega
theorem mem_sortN {u : List Nat} {x : Nat} : x ∈ sortN u ↔ x ∈ u := by unfold sortN; exact List.mem_mergeSort
theorem sortN_ne {u : List Nat} (h : u ≠ []) : sortN u ≠ [] := fun e => h (by
  have := congrArg List.length e
  unfold sortN at this
  rw [List.length_mergeSort] at this
  exact List.length_eq_zero_iff.1 this)
/-- What lies as rows, part by part. -/
theorem heads_ne {us : List (List Nat)} (hd : us.flatten.Nodup) (hn : ∀ u ∈ us, u ≠ []) : ∀ L : List Gp, L.map Gp.l = us.map sortN → ∀ x ∈ L, ∀ y ∈ L, hdG x = hdG y → x = y := by
  intro L hL x hx y hy e
  have hlen : L.length = us.length := by have := congrArg List.length hL; simpa using this
  obtain ⟨i, hi, rfl⟩ := List.mem_iff_getElem.1 hx
  obtain ⟨j, hj, rfl⟩ := List.mem_iff_getElem.1 hy
  have hl : ∀ k (hk : k < L.length), (L[k]).l = sortN (us[k]'(by omega)) := fun k hk => by
    have h1 : (L.map Gp.l)[k]? = (us.map sortN)[k]? := by rw [hL]
    rw [List.getElem?_map, List.getElem?_map, List.getElem?_eq_getElem hk, List.getElem?_eq_getElem (by omega)] at h1
    exact Option.some.inj h1
  by_cases hij : i = j
  · subst hij; rfl
  · exfalso
    have hmem : ∀ k (hk : k < L.length), (L[k]).l.head?.getD 0 ∈ us[k]'(by omega) := fun k hk => by
      rw [hl k hk, ← mem_sortN]
      have hne := sortN_ne (hn (us[k]'(by omega)) (List.getElem_mem _))
      cases hs : sortN (us[k]'(by omega)) with
      | nil => exact absurd hs hne
      | cons a r => simp
    have h1 := hmem i hi
    have h2 := hmem j hj
    have e' : (L[i]).l.head?.getD 0 = (L[j]).l.head?.getD 0 := by
      unfold hdG at e
      exact_mod_cast e
    rw [e'] at h1
    have hp := (List.pairwise_flatten.1 hd).2
    rcases Nat.lt_or_gt_of_ne hij with h | h
    · exact (List.pairwise_iff_getElem.1 hp i j (by omega) (by omega) h) _ h1 _ h2 rfl
    · exact (List.pairwise_iff_getElem.1 hp j i (by omega) (by omega) h) _ h2 _ h1 rfl
/-- The list of rows abides the turn of a block that is no cells. -/
theorem own_cells {lo : Nat} {t : TypeId} {sz k : Nat} {W : World} {v : Value} {xs : List Value} (h : W.ownsRow lo t sz v k xs) {b : Nat} (e : v.ownBlock = some b) : ∃ o : Obj, W.heap[b]? = some o ∧ o.isCells = true := by
  rcases h.2 with ⟨e1, -⟩ | ⟨g, cap, cur, e1, -, hg, -⟩
  · rw [e1] at e; cases e
  · rw [e1] at e; cases e; exact ⟨_, hg, rfl⟩
theorem GvAt.turn {lo : Nat} {W W' : World} {v : Value} {L : List Gp} {row : Option Nat} (h : GvAt lo W v L) (hg : W.grownBy W' row) (hr : ∀ r, row = some r → ∃ o : Obj, W.heap[r]? = some o ∧ o.isCells = false) : GvAt lo W' v L := by
  have hb : But (fun b => row = some b) W W' := But.of_grown hg (fun _ e => e)
  have hno : ∀ {k : Nat} {t : TypeId} {sz : Nat} {v : Value} {xs : List Value}, W.ownsRow lo t sz v k xs → ∀ b, v.ownBlock = some b → ¬ row = some b := fun h0 b e q => by
    obtain ⟨o1, h1, c1⟩ := own_cells h0 e
    obtain ⟨o2, h2, c2⟩ := hr b q
    rw [h1] at h2; cases h2; rw [c1] at c2; cases c2
  exact ⟨ownsRow_but h.own hb (hno h.own), fun x hx => (h.pts x hx).but hb (hno (h.pts x hx)), h.ap⟩
/-- A row is appended, inside a fence. -/
theorem wpListIn_pushGv {F : Fence} {n0 : Nat} {lo : Nat} {W : World} {v pv : Value} {L : List Gp} {pl : List Nat} {ops : Array Oper} {rest : List Oper} {o : Oper} {a : Act} {Q : Exit → Act → World → Prop}
    (hg : o.guard = none) (s x : Operand) (hop : o.op = Op.call { callee := Callee.builtin Builtin.append, args := #[s, x], argTypes := #[27, 27] })
    (hs : a.eval s = v) (hown : GvAt lo W v L) (hp : ownI lo W pv (pl.map fun (n : Nat) => (n : Int))) (hap : ∀ b, pv.ownBlock = some b → v.ownBlock ≠ some b) (hl : L.length ≤ 100000) (hbase : lo ≤ W.heap.size)
    (ad : Nat) (hx : a.eval x = .slice (some ⟨ad, 0, none⟩) 1 1) (hc0 : W.cell? ⟨ad, 0, none⟩ = some pv)
    (hK : ∀ (g cap n : Nat) (w9 : World), n = L.length + 1 → GvAt lo w9 (.slice (some ⟨g, 0, none⟩) n cap) (L ++ [⟨pv, pl⟩]) → W.grownBy w9 v.ownBlock → (v.ownBlock = some g ∨ g = W.heap.size) → wpListIn F n0 Try.prog ops Q rest (a.put o.dst (.slice (some ⟨g, 0, none⟩) n cap)) w9) :
    wpListIn F n0 Try.prog ops Q (o :: rest) a W := by
  obtain ⟨i0, hi, hz0, hz1, hz2⟩ := info_parts infoRow
  have hpo : pv.oneCell' = true := by
    obtain ⟨ao, c, e, -⟩ := hp.slice
    rw [e]; rfl
  refine wpListIn_plain hg fun K hK' => ?_
  obtain ⟨g, cap, w9, hr, hown9, hgrow, hgg, hg9⟩ := run_append_lies (P := Try.prog) W 27 o.type lo 51 i0 nilS 1 24 Try.underlying27 hi hz0 hz1 hz2 rfl (by decide) v L.length (gpCells L) hown.own ⟨ad, 0, none⟩ 1 1 [pv] rfl
    (fun j u hu => by
      match j, hu with
      | 0, hu => simp at hu; subst hu; rw [addr_zero]; exact hc0) (by intro u hu; rw [List.mem_singleton] at hu; rw [hu]; exact hpo) (by decide) (by unfold maxLen; omega) (by omega) hbase _ rfl
  unfold Oper.wpIn
  refine ⟨?_, ?_⟩
  · simp [Oper.about, hop, resolve, Target.leads, Sem.run_pure]
  · rw [Oper.semAt_plain F _ _ (by rw [hop]; intro c hc'; cases hc')]
    simp [execOp, hop, resolve, invoke, builtin, hs, hx, hr, Result.andThen]
    refine hK' _ _ (hK g cap _ w9 rfl ⟨?_, fun y hy => ?_, fun y hy => ?_⟩ hgrow hgg)
    · rw [List.length_append, show gpCells (L ++ [⟨pv, pl⟩]) = gpCells L ++ [pv] by simp [gpCells]]
      exact hown9
    · have hb : But (fun b => v.ownBlock = some b) W w9 := But.of_grown hgrow (fun _ e => e)
      rw [List.mem_append, List.mem_singleton] at hy
      rcases hy with hy | rfl
      · exact (hown.pts y hy).but hb (fun b e q => hown.ap y hy b e q)
      · exact hp.but hb (fun b e q => hap b e q)
    · have hgp : ∀ (pv : Value) (pl : List Int), ownI lo W pv pl → (∀ b, pv.ownBlock = some b → v.ownBlock ≠ some b) → ∀ b, pv.ownBlock = some b → (Value.slice (some ⟨g, 0, none⟩) (L.length + 1) cap).ownBlock ≠ some b := fun pv pl hp hap b e q => by
        cases q
        rcases hgg with q | q
        · exact hap _ e q
        · have := (hp.lt e).2; dsimp only at this; omega
      rw [List.mem_append, List.mem_singleton] at hy
      rcases hy with hy | rfl
      · exact hgp y.v _ (hown.pts y hy) (hown.ap y hy)
      · exact hgp pv _ hp hap
end Go.Proofs.Ytjjkabgbcflipaa
namespace Go.Proofs.Ytjjkabgbcflipaa
open Go Go.Proofs Go.RowKit Go.Shelf GM

attribute [local go_sem] Oper.semAt_some

/-- The state while groups are collected. -/
structure GC (w0 : World) (LO M VB MB GB P : Nat) (es : List Nat) (ls : List (List Nat)) (ve vl : Value) (ps : List Nat) (W : World) (us : List (List Nat)) (vg : Value) (L : List Gp) : Prop where
  gr : GR (nxt es ls) ps us.flatten us
  rows : L.map Gp.l = us.map sortN
  gb : W.cell? ⟨GB, 0, none⟩ = some vg
  gf : W.frozen? ⟨GB, 0, none⟩ = false
  gv : GvAt LO W vg L
  mks : MkAt W M P (unionB (fun _ => false) us.flatten)
  v0 : W.cell? ⟨VB, 0, none⟩ = some ve
  v1 : W.cell? ⟨VB, 1, none⟩ = some vl
  mb : W.cell? ⟨MB, 0, none⟩ = some (.slice (some ⟨M, 0, none⟩) P P)
  view : VR (fun b => b < LO ∧ b ≠ M ∧ b ≠ GB) W ve vl P es ls
  below : Below w0.heap.size w0 W
  size : LO ≤ W.heap.size
  cnt : us.flatten.length + cntF (unionB (fun _ => false) us.flatten) P ≤ P
  d : w0.heap.size ≤ M ∧ M < LO ∧ w0.heap.size ≤ GB ∧ GB < LO ∧ VB < LO ∧ MB < LO ∧ M ≠ GB ∧ VB ≠ M ∧ VB ≠ GB ∧ MB ≠ M ∧ MB ≠ GB
section
variable {w0 : World} {LO M VB MB GB P : Nat} {es : List Nat} {ls : List (List Nat)} {ve vl : Value} {ps : List Nat} {W W' : World} {us : List (List Nat)} {vg : Value} {L : List Gp}
/-- A step that writes M alone, or into new blocks. -/
theorem GC.markStep (h : GC w0 LO M VB MB GB P es ls ve vl ps W us vg L) {S : Nat → Prop} (hb : But S W W') (hS : ∀ b, b < W.heap.size → S b → b = M) :
    W'.cell? ⟨GB, 0, none⟩ = some vg ∧ W'.frozen? ⟨GB, 0, none⟩ = false ∧ GvAt LO W' vg L ∧ W'.cell? ⟨VB, 0, none⟩ = some ve ∧ W'.cell? ⟨VB, 1, none⟩ = some vl ∧ W'.cell? ⟨MB, 0, none⟩ = some (.slice (some ⟨M, 0, none⟩) P P) ∧
    VR (fun b => b < LO ∧ b ≠ M ∧ b ≠ GB) W' ve vl P es ls ∧ Below w0.heap.size w0 W' ∧ LO ≤ W'.heap.size := by
  obtain ⟨d1, d2, d3, d4, d5, d6, d7, d8, d9, d10, d11⟩ := h.d
  have hs := h.size
  have n : ∀ b, b < LO → b ≠ M → ¬ S b := fun b h1 h2 e => h2 (hS b (by omega) e)
  refine ⟨(hb.cell (p := ⟨GB, 0, none⟩) (by dsimp only; omega) (n GB d4 (fun e => d7 e.symm))).trans h.gb, (hb.frozen (p := ⟨GB, 0, none⟩) (by dsimp only; omega) (n GB d4 (fun e => d7 e.symm))).trans h.gf,
    h.gv.but hb (fun b h1 h2 e => by have := hS b h2 e; omega), (hb.cell (p := ⟨VB, 0, none⟩) (by dsimp only; omega) (n VB d5 d8)).trans h.v0, (hb.cell (p := ⟨VB, 1, none⟩) (by dsimp only; omega) (n VB d5 d8)).trans h.v1,
    (hb.cell (p := ⟨MB, 0, none⟩) (by dsimp only; omega) (n MB d6 d10)).trans h.mb, h.view.keep (KA.of_but hb (fun b h1 h2 => n b h1.1 h1.2.1)) (fun _ h _ => h), ?_, Nat.le_trans hs hb.size⟩
  exact h.below.trans ⟨hb.os, hb.tape, hb.output, hb.size, fun k hk => hb.block k (by have := h.below.size; omega) (fun e => by have := hS k (by have := h.below.size; omega) e; omega)⟩
theorem GC.turn (h : GC w0 LO M VB MB GB P es ls ve vl ps W us vg L) {row : Option Nat} (hg : W.grownBy W' row) (hr : ∀ r, row = some r → LO ≤ r ∧ ∃ o : Obj, W.heap[r]? = some o ∧ o.isCells = false) : GC w0 LO M VB MB GB P es ls ve vl ps W' us vg L := by
  obtain ⟨d1, d2, d3, d4, d5, d6, d7, d8, d9, d10, d11⟩ := h.d
  have hs := h.size
  have hb : But (fun b => row = some b) W W' := But.of_grown hg (fun _ e => e)
  have n : ∀ b, b < LO → ¬ row = some b := fun b h1 e => by have := (hr b e).1; omega
  exact ⟨h.gr, h.rows, (hb.cell (p := ⟨GB, 0, none⟩) (by dsimp only; omega) (n GB d4)).trans h.gb, (hb.frozen (p := ⟨GB, 0, none⟩) (by dsimp only; omega) (n GB d4)).trans h.gf, h.gv.turn hg (fun r e => (hr r e).2), h.mks.but hb (n M d2),
    (hb.cell (p := ⟨VB, 0, none⟩) (by dsimp only; omega) (n VB d5)).trans h.v0, (hb.cell (p := ⟨VB, 1, none⟩) (by dsimp only; omega) (n VB d5)).trans h.v1, (hb.cell (p := ⟨MB, 0, none⟩) (by dsimp only; omega) (n MB d6)).trans h.mb,
    h.view.keep (KA.of_but hb (fun b h1 _ => n b h1.1)) (fun _ h _ => h), h.below.trans ⟨hb.os, hb.tape, hb.output, hb.size, fun k hk => hb.block k (by have := h.below.size; omega) (n k (by omega))⟩, Nat.le_trans hs hb.size, h.cnt, h.d⟩
/-- What a round keeps. -/
theorem GC.keeps (h : GC w0 LO M VB MB GB P es ls ve vl ps W us vg L) (hb : But (fun b => b = M ∨ b = GB ∨ vg.ownBlock = some b) W W') : KeepsFrom LO W W' ∧ KA (fun b => b < LO ∧ b ≠ M ∧ b ≠ GB) W W' := by
  obtain ⟨d1, d2, d3, d4, d5, d6, d7, d8, d9, d10, d11⟩ := h.d
  refine ⟨⟨hb.size, fun k o hk ho hc => ?_⟩, KA.of_but hb (fun b h1 _ e => ?_)⟩
  · have hlt := (Array.getElem?_eq_some_iff.1 ho).1
    rw [hb.block k hlt (fun e => ?_)]; exact ho
    rcases e with e | e | e
    · omega
    · omega
    · obtain ⟨o2, h2, c2⟩ := own_cells h.gv.own e
      rw [ho] at h2; cases h2; rw [hc] at c2; cases c2
  · rcases e with e | e | e
    · exact h1.2.1 e
    · exact h1.2.2 e
    · have := (h.gv.lt e).1; omega
theorem GC.old (h : GC w0 LO M VB MB GB P es ls ve vl ps W us vg L) {p : Nat} (hv : VL (nxt es ls) (fun x => unionB (fun _ => false) us.flatten x = true) [p] []) (hm : MkAt W' M P (unionB (unionB (fun _ => false) us.flatten) [])) (hb : But (fun b => b = M) W W') :
    GC w0 LO M VB MB GB P es ls ve vl (ps ++ [p]) W' us vg L := by
  obtain ⟨e1, e2, e3, e4, e5, e6, e7, e8, e9⟩ := h.markStep hb (fun _ _ e => e)
  rw [unionB_nil] at hm
  exact ⟨.old h.gr (hv.congr (fun x => by rw [unionB_iff]; simp)), h.rows, e1, e2, e3, hm, e4, e5, e6, e7, e8, e9, h.cnt, h.d⟩
theorem GC.new (h : GC w0 LO M VB MB GB P es ls ve vl ps W us vg L) {p : Nat} {u : List Nat} {vg' uv : Value} (hu : u ≠ []) (hv : VL (nxt es ls) (fun x => unionB (fun _ => false) us.flatten x = true) [p] u) (hm : MkAt W' M P (unionB (unionB (fun _ => false) us.flatten) u))
    (hc : u.length + cntF (unionB (unionB (fun _ => false) us.flatten) u) P ≤ cntF (unionB (fun _ => false) us.flatten) P)
    (hb : But (fun b => b = M ∨ b = GB ∨ vg.ownBlock = some b) W W') (hg : W'.cell? ⟨GB, 0, none⟩ = some vg') (hf : W'.frozen? ⟨GB, 0, none⟩ = false) (hG : GvAt LO W' vg' (L ++ [⟨uv, sortN u⟩])) :
    GC w0 LO M VB MB GB P es ls ve vl (ps ++ [p]) W' (us ++ [u]) vg' (L ++ [⟨uv, sortN u⟩]) := by
  obtain ⟨d1, d2, d3, d4, d5, d6, d7, d8, d9, d10, d11⟩ := h.d
  have hs := h.size
  have n : ∀ b, b < LO → b ≠ M → b ≠ GB → ¬ (b = M ∨ b = GB ∨ vg.ownBlock = some b) := fun b h1 h2 h3 e => by
    rcases e with e | e | e
    · exact h2 e
    · exact h3 e
    · have := (h.gv.lt e).1; omega
  have hfl : (us ++ [u]).flatten = us.flatten ++ u := by simp
  rw [unionB_app] at hm hc
  refine ⟨?_, by rw [List.map_append, List.map_append, h.rows]; rfl, hg, hf, hG, by rw [hfl]; exact hm, (hb.cell (p := ⟨VB, 0, none⟩) (by dsimp only; omega) (n VB d5 d8 d9)).trans h.v0, (hb.cell (p := ⟨VB, 1, none⟩) (by dsimp only; omega) (n VB d5 d8 d9)).trans h.v1,
    (hb.cell (p := ⟨MB, 0, none⟩) (by dsimp only; omega) (n MB d6 d10 d11)).trans h.mb, h.view.keep (KA.of_but hb (fun b h1 _ => n b h1.1 h1.2.1 h1.2.2)) (fun _ h _ => h), ?_, Nat.le_trans hs hb.size, ?_, h.d⟩
  · rw [hfl]
    exact .new h.gr (hv.congr (fun x => by rw [unionB_iff]; simp)) hu
  · exact h.below.trans ⟨hb.os, hb.tape, hb.output, hb.size, fun k hk => hb.block k (by have := h.below.size; omega) (fun e => by
      rcases e with e | e | e
      · omega
      · omega
      · have := (h.gv.lt e).1; omega)⟩
  · rw [hfl, List.length_append]
    have := h.cnt
    omega
end
def GJ (w0 : World) (LO M VB MB GB P : Nat) (es : List Nat) (ls : List (List Nat)) (ve vl : Value) (order : List Nat) (pre : List (Fin order.length)) (W : World) : Prop :=
  ∃ us vg L, GC w0 LO M VB MB GB P es ls ve vl (pre.map fun x => atD order x.val) W us vg L
theorem GJ.own {w0 : World} {LO M VB MB GB P : Nat} {es : List Nat} {ls : List (List Nat)} {ve vl : Value} {order : List Nat} : OwnFrom LO (GJ w0 LO M VB MB GB P es ls ve vl order) := by
  rintro s X Y row ⟨us, vg, L, h⟩ hg hr
  exact ⟨us, vg, L, h.turn hg hr⟩
end Go.Proofs.Ytjjkabgbcflipaa
