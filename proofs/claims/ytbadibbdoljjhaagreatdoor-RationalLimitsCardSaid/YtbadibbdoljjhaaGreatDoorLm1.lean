import Derived.Test.YtbadibbdoljjhaaGreatDoorCut32
import Derived.Test.YtbadibbdoljjhaaGreatDoorCut4
import Derived.Laws.OwnMore
import Derived.Deep.RegionHeld3
import Derived.Test.YtbadibbdoljjhaaGreatDoorCut1
import Derived.OpenShut
import Derived.ChangeMaps5
import Derived.Lib.SmallJoins

set_option linter.unusedVariables false
/-
  A number of the law RationalLimits: its text.
-/
namespace Go.Proofs.YtbadibbdoljjhaaGreatDoor
open Go Go.Proofs Go.RowKit

theorem set_cells (w : World) (g n cap B : Nat) (l : List UInt8) (d : UInt8) (h : w.ownsRow B 5 1 (.slice (some ⟨g, 0, none⟩) (n + 1) cap) (n + 1) (Lib.byteCells l)) (hl : l.length = n + 1) :
    (∀ j (hj : j < (l.set n d).length), (w.setCell ⟨g, n, none⟩ (.int .u8 (d.toNat : Int))).cell? ((⟨g, 0, none⟩ : Addr).add j) = some (.int .u8 ((l.set n d)[j].toNat : Int))) ∧
    (∃ v, w.cell? ⟨g, n, none⟩ = some v) ∧ w.frozen? ⟨g, n, none⟩ = false ∧ g < w.heap.size ∧ B ≤ g := by
  have hc := fun j (hj : j < n + 1) => h.cellAt j (by omega)
  rcases h.2 with ⟨-, h0⟩ | ⟨g', cap', cur, h', hB, hg, -, -, -, -⟩
  · omega
  simp only [Value.slice.injEq, Option.some.injEq, Addr.mk.injEq, and_true, true_and] at h'
  obtain ⟨rfl, rfl⟩ := h'
  refine ⟨fun j hj => ?_, ?_, ?_, ?_, hB⟩
  · have hj' : j < n + 1 := by rw [List.length_set, hl] at hj; exact hj
    have hcj : w.cell? ⟨g, j, none⟩ = (Lib.byteCells l)[j]? := hc j hj'
    rw [show ((⟨g, 0, none⟩ : Addr).add j) = ⟨g, j, none⟩ by simp [Addr.add]; try (intro h; exact h.symm)]
    by_cases e : n = j
    · subst e
      rw [Go.World.cell?_setCell_same w _ _ (u := (Lib.byteCells l)[n]'(by rw [byteCells_length]; omega)) (by rw [hcj]; exact List.getElem?_eq_getElem _)]
      rw [List.getElem_set_self]
    · rw [Go.World.cell?_setCell_other w _ _ _ (fun k => e (by injection k)), hcj, List.getElem_set_ne e]
      simp [Lib.byteCells, hl, hj']
  · have := hc n (by omega)
    rw [this]
    exact ⟨_, List.getElem?_eq_getElem (by rw [byteCells_length]; omega)⟩
  · simp [World.frozen?, hg]
  · exact (Array.getElem?_eq_some_iff.1 hg).1

set_option maxHeartbeats 4000000 in
theorem long_text (z a : Nat) (hz : z ≤ 65535) (ha : a ≤ 255) (w : World) :
    Calls Tryz.prog 51 #[.agg #[.int .u16 z, .int .u8 a]] w fun e w' => ∃ r : ByteArray, e = .returned (.string r) ∧ r.size ≤ 5000 ∧ Below w.heap.size w w' := by
  obtain ⟨i0, hi, hz0, hz1, hz2⟩ := info_parts infoU8
  obtain ⟨N, hN⟩ : ∃ N : Nat, N = z % 4098 := ⟨_, rfl⟩
  have hNl : N ≤ 4097 := by omega
  have A0 : Below w.heap.size w (w.alloc (Obj.cells #[.int .u16 z, .int .u8 a] 56)) := (Below.refl _ _).alloc (Nat.le_refl _) _
  have c0 : (w.alloc (Obj.cells #[.int .u16 z, .int .u8 a] 56)).cell? ⟨w.heap.size, 0, none⟩ = some (.int .u16 z) := by go_cell
  have c1 : (w.alloc (Obj.cells #[.int .u16 z, .int .u8 a] 56)).cell? ⟨w.heap.size, 1, none⟩ = some (.int .u8 a) := by go_cell
  have s0 : w.heap.size < (w.alloc (Obj.cells #[.int .u16 z, .int .u8 a] 56)).heap.size := by simp
  have h1 : (w.alloc (Obj.cells #[.int .u16 z, .int .u8 a] 56)).heap.size = w.heap.size + 1 := by simp
  have hO : ((w.alloc (Obj.cells #[.int .u16 z, .int .u8 a] 56)).alloc (Obj.cells #[.int .u8 49] 5)).ownsRow (w.heap.size + 1) 5 1 (.slice (some ⟨w.heap.size + 1, 0, none⟩) 1 1) 1 (Lib.byteCells [49]) := by
    have := World.ownsRow_lit (base := w.heap.size + 1) (e := 5) (size := 1) (w.alloc (Obj.cells #[.int .u16 z, .int .u8 a] 56)) #[.int .u8 49] 1 (by simp) (by decide) rfl
    rw [h1] at this
    exact this
  have hb1 : Below (w.heap.size + 1) (w.alloc (Obj.cells #[.int .u16 z, .int .u8 a] 56)) ((w.alloc (Obj.cells #[.int .u16 z, .int .u8 a] 56)).alloc (Obj.cells #[.int .u8 49] 5)) := (Below.refl _ _).alloc (by simp) _
  have HO := Lib.hid hO; have HB1 := Lib.hid hb1; have HN := Lib.hid hN; have HA := Lib.hid A0; have HC1 := Lib.hid c1; have HC0 := Lib.hid c0; have HS0 := Lib.hid s0
  clear hO hb1 hN A0 c1 c0 s0 h1
  go_enter Tryz.func51, Tryz.ntmps51
  go_wp2_with fail
  rw [show (z : Int) % 4098 = (N : Int) by have := HN.out; omega]
  go_loopw [3, 9] (fun v iv wr => ∃ (j : Nat) (l : List UInt8), j ≤ N ∧ iv = .int .i64 j ∧ l.length = j + 1 ∧ wr.ownsRow (w.heap.size + 1) 5 1 v (j + 1) (Lib.byteCells l) ∧ Below (w.heap.size + 1) (w.alloc (Obj.cells #[.int .u16 z, .int .u8 a] 56)) wr) (fun _ iv _ => N - (intOf iv).toNat)
  case atStart => exact ⟨0, [49], Nat.zero_le _, rfl, rfl, HO.out, HB1.out⟩
  case round =>
    obtain ⟨j, l, hj, rfl, hl, hown, hbw⟩ := hrel
    by_cases hlt : j < N
    · have HL := Lib.hid hl; clear hl
      go_wp2_with (at_builtin; refine wpList_append_own _ rfl _ _ 117 rfl (w.heap.size + 1) 5 i0 (.int .u8 0) 1 1 Tryz.underlying117 hi hz0 hz1 hz2 rfl (by decide) _ _ _ rfl (hown.alloc _) ⟨wr.heap.size, 0, none⟩ 1 1 [.int .u8 48] rfl rfl ?c1 ?c2 ?c3 ?c4 ?c5 ?_)
      case c1 => intro j u hj; match j, hj with | 0, hj => (simp at hj; subst hj; simp [Addr.add])
      case c2 => intro u hu; simp at hu; subst hu; rfl
      case c3 => unfold maxLen; omega
      case c4 => omega
      case c5 => have := hbw.size; have h8 := HS0.out; simp; omega
      intro v' w2 hown' hgrow _
      go_wp2
      go_roundw
      case rel =>
        refine ⟨j + 1, l ++ [48], by omega, by go_num, by rw [List.length_append, HL.out]; rfl, ?_, ?_⟩
        · rw [byteCells_append]; exact hown'
        · exact hbw.trans (((Below.refl _ _).alloc (by have := hbw.size; have h8 := HS0.out; omega) _).grown hgrow (by have := hbw.size; have h8 := HS0.out; simp; omega) (fun k hk => ((hown.lt k hk)).1))
      case measure => simp only [intOf]; omega
    · have hjN : j = N := by omega
      subst hjN
      rcases hown.2 with ⟨-, h0⟩ | ⟨g, cap, cur, rfl, -, -, -, -, -, -⟩
      · omega
      obtain ⟨sc, ⟨v0, cv⟩, fv, sg, hBg⟩ := set_cells wr g j cap (w.heap.size + 1) l (UInt8.ofNat (49 + a % 9)) hown hl
      have hlen : (l.set j (UInt8.ofNat (49 + a % 9))).length = j + 1 := by rw [List.length_set, hl]
      have hd : ((UInt8.ofNat (49 + a % 9)).toNat : Int) = 49 + (a : Int) % 9 := by
        rw [UInt8.toNat_ofNat']
        omega
      rw [hd] at sc
      generalize l.set j (UInt8.ofNat (49 + a % 9)) = L at *
      have hcv := run_convert_bytes_back (P := Tryz.prog) _ 117 22 5 ⟨g, 0, none⟩ cap L Tryz.underlying117 Tryz.underlying5 Tryz.underlying22 sc
      rw [hlen] at hcv
      have c2 := (hbw.cell (p := ⟨w.heap.size, 1, none⟩) (by simp)).trans HC1.out
      have s2 : w.heap.size < wr.heap.size := Nat.lt_of_lt_of_le HS0.out hbw.size
      have HB := Lib.hid (hbw.setCell (p := ⟨g, j, none⟩) hBg (.int .u8 (49 + (a : Int) % 9)))
      have HLN := Lib.hid hlen
      clear hown hbw sc hl hlen hd
      go_wp2
      go_ret
      refine ⟨⟨L.toArray⟩, rfl, ?_, ?_⟩
      · show L.length ≤ 5000
        rw [HLN.out]; omega
      · exact HA.out.trans (HB.out.mono (Nat.le_succ _))
end Go.Proofs.YtbadibbdoljjhaaGreatDoor

/-
  A struct of an uint16 and an uint8 by value, opened and shut.
-/
namespace Go.Proofs.YtbadibbdoljjhaaGreatDoor
open Go Go.Proofs Go.ChangeShapes Go.WideShapes Go.ChangeMaps

section
variable {H : Type} {enc : TypeId × Value → H} {P : Program} {w : World} {base : Nat} {sp : Nat → Bool} {held : Bool}
theorem open_long {r : Reach} {b0 : Nat} {t : TypeId} {f0 f1 : Field} {v : Value} {d : DataW H} {ps : List MemPlace} (ht : P.underlying t = some (.struct #[f0, f1])) (hone : Go.Deep.oneCellFields P #[f0, f1] = true) (hC : P.cellsOf t = 2)
    (h0 : P.underlying f0.type = some (.int .u16)) (h1 : P.underlying f1.type = some (.int .u8))
    (hv : Value.okWide P w r b0 t v) (h : DataW.Trod enc P w base sp held t v d ps) :
    ∃ z a : Nat, v = .agg #[.int .u16 z, .int .u8 a] ∧ d = .agg [.lit (.int .u16 z), .lit (.int .u8 a)] ∧ ps = [] ∧ z ≤ 65535 ∧ a ≤ 255 := by
  obtain ⟨v0, v1, y0, y1, n, rfl, rfl, rfl, g0, g1⟩ := Go.Joins.open_agg2 ht hone hC hv h
  obtain ⟨z, e0, x0, k0⟩ := DataW.trod_int h0 g0
  obtain ⟨a, e1, x1, k1⟩ := DataW.trod_int h1 g1
  cases e0; cases e1; subst x0 x1
  have b0 := bounds_u16 k0
  have b1 := bounds_u8 k1
  obtain ⟨z, rfl⟩ := Int.eq_ofNat_of_zero_le b0.1
  obtain ⟨a, rfl⟩ := Int.eq_ofNat_of_zero_le b1.1
  exact ⟨z, a, rfl, rfl, rfl, by omega, by omega⟩
theorem shut_long {t : TypeId} {f0 f1 : Field} {z a : Nat} (ht : P.underlying t = some (.struct #[f0, f1])) (hone : Go.Deep.oneCellFields P #[f0, f1] = true) (hC : P.cellsOf t = 2)
    (h0 : P.underlying f0.type = some (.int .u16)) (h1 : P.underlying f1.type = some (.int .u8)) (hz : z ≤ 65535) (ha : a ≤ 255) :
    DataW.Trod enc P w base sp held t (.agg #[.int .u16 z, .int .u8 a]) (.agg [.lit (.int .u16 z), .lit (.int .u8 a)]) [] := by
  have k0 : (Lit.int .u16 (z : Int)).wf = true := by simp [Lit.wf, IntKind.min, IntKind.max, IntKind.signed, IntKind.bits]; omega
  have k1 : (Lit.int .u8 (a : Int)).wf = true := by simp [Lit.wf, IntKind.min, IntKind.max, IntKind.signed, IntKind.bits]; omega
  exact Go.Joins.shut_agg2 (y0 := (.lit (.int .u16 z), [])) (y1 := (.lit (.int .u8 a), [])) ht hone hC ⟨1, by simp [DataW.trod, h0, k0]⟩ ⟨1, by simp [DataW.trod, h1, k1]⟩
end
end Go.Proofs.YtbadibbdoljjhaaGreatDoor

/-
  RationalLimits: the walk.
-/
namespace Go.Proofs.YtbadibbdoljjhaaGreatDoor
open Go Go.Proofs Go.RowKit

structure LBox (w W : World) (p : Nat) (z0 a0 z1 a1 : Nat) : Prop where
  b0 : W.cell? ⟨p, 0, none⟩ = some (.int .u16 z0)
  b1 : W.cell? ⟨p, 1, none⟩ = some (.int .u8 a0)
  d0 : W.cell? ⟨p + 1, 0, none⟩ = some (.int .u16 z1)
  d1 : W.cell? ⟨p + 1, 1, none⟩ = some (.int .u8 a1)
  lt : p + 1 < W.heap.size
  below : Below w.heap.size w W
theorem LBox.mono {w W W' : World} {p z0 a0 z1 a1 : Nat} (h : LBox w W p z0 a0 z1 a1) (g : Below W.heap.size W W') : LBox w W' p z0 a0 z1 a1 :=
  ⟨(g.cell (p := ⟨p, 0, none⟩) (Nat.lt_of_succ_lt h.lt)).trans h.b0, (g.cell (p := ⟨p, 1, none⟩) (Nat.lt_of_succ_lt h.lt)).trans h.b1, (g.cell (p := ⟨p + 1, 0, none⟩) h.lt).trans h.d0, (g.cell (p := ⟨p + 1, 1, none⟩) h.lt).trans h.d1, Nat.lt_of_lt_of_le h.lt g.size, Below.chain h.below g⟩
theorem LBox.keep {w W : World} {p z0 a0 z1 a1 : Nat} (h : LBox w W p z0 a0 z1 a1) : W.cell? ⟨p, 0, none⟩ = some (.int .u16 z0) ∧ W.cell? ⟨p, 1, none⟩ = some (.int .u8 a0) ∧ W.cell? ⟨p + 1, 0, none⟩ = some (.int .u16 z1) ∧ W.cell? ⟨p + 1, 1, none⟩ = some (.int .u8 a1) := ⟨h.b0, h.b1, h.d0, h.d1⟩
theorem lbox_new (w : World) (z0 a0 z1 a1 : Nat) : LBox w ((w.alloc (Obj.cells #[.int .u16 z0, .int .u8 a0] 56)).alloc (Obj.cells #[.int .u16 z1, .int .u8 a1] 56)) w.heap.size z0 a0 z1 a1 :=
  ⟨by go_cell, by go_cell, by go_cell, by go_cell, by simp, ((Below.refl _ _).alloc (Nat.le_refl _) _).alloc (by simp) _⟩

set_option maxRecDepth 20000 in
set_option maxHeartbeats 8000000 in
theorem lim_core (z0 a0 z1 a1 : Nat) (w : World) (hz0 : z0 ≤ 65535) (ha0 : a0 ≤ 255) (hz1 : z1 ≤ 65535) (ha1 : a1 ≤ 255)
    (um ua : ByteArray → ByteArray) (em ea er : ByteArray → Int) (cc ec : ByteArray → ByteArray → Int)
    (C1 : ∀ (s : ByteArray) (W : World), s.size ≤ 6000 → Below w.heap.size w W → Calls Tryz.prog 47 #[.string s, .string ⟨#[51]⟩] W (Bret (.tuple #[.string (um s), .int .i64 (em s)]) W))
    (C2 : ∀ (s : ByteArray) (W : World), s.size ≤ 6000 → Below w.heap.size w W → Calls Tryz.prog 48 #[.string s, .string ⟨#[51]⟩] W (Bret (.tuple #[.string (um s), .int .i64 (em s)]) W))
    (C3 : ∀ (s : ByteArray) (W : World), s.size ≤ 6000 → Below w.heap.size w W → Calls Tryz.prog 43 #[.string s, .string ⟨#[49]⟩] W (Bret (.tuple #[.string (ua s), .int .i64 (ea s)]) W))
    (C4 : ∀ (s : ByteArray) (W : World), s.size ≤ 6000 → Below w.heap.size w W → Calls Tryz.prog 44 #[.string s, .string ⟨#[49]⟩] W (Bret (.tuple #[.string (ua s), .int .i64 (ea s)]) W))
    (C5 : ∀ (s t : ByteArray) (W : World), s.size ≤ 6000 → t.size ≤ 6000 → Below w.heap.size w W → Calls Tryz.prog 41 #[.string s, .string t] W (Bret (.tuple #[.int .i64 (cc s t), .int .i64 (ec s t)]) W))
    (C6 : ∀ (s t : ByteArray) (W : World), s.size ≤ 6000 → t.size ≤ 6000 → Below w.heap.size w W → Calls Tryz.prog 42 #[.string s, .string t] W (Bret (.tuple #[.int .i64 (cc s t), .int .i64 (ec s t)]) W))
    (C7 : ∀ (s : ByteArray) (W : World), s.size ≤ 6000 → Below w.heap.size w W → Calls Tryz.prog 37 #[.string s] W (Bret (.int .i64 (er s)) W))
    (C8 : ∀ (s : ByteArray) (W : World), s.size ≤ 6000 → Below w.heap.size w W → Calls Tryz.prog 38 #[.string s] W (Bret (.int .i64 (er s)) W))
    (CA : ∀ W : World, Below w.heap.size w W → Calls Tryz.prog 26 #[] W (Bret (.bool true) W)) :
    Calls Tryz.prog 7 #[.agg #[.int .u16 z0, .int .u8 a0], .agg #[.int .u16 z1, .int .u8 a1]] w (Bret (.bool true) w) := by
  have T0 := fun W => long_text z0 a0 hz0 ha0 W
  have T1 := fun W => long_text z1 a1 hz1 ha1 W
  have L0 := lbox_new w z0 a0 z1 a1
  have K1 := Lib.hid C1; have K2 := Lib.hid C2; have K3 := Lib.hid C3; have K4 := Lib.hid C4; have K5 := Lib.hid C5; have K6 := Lib.hid C6; have K7 := Lib.hid C7; have K8 := Lib.hid C8; have KA := Lib.hid CA; have KT0 := Lib.hid T0; have KT1 := Lib.hid T1; have HL := Lib.hid L0
  clear C1 C2 C3 C4 C5 C6 C7 C8 CA T0 T1 L0
  go_enter Tryz.func7, Tryz.ntmps7
  go_wp2_with fail
  generalize ((w.alloc (Obj.cells #[.int .u16 z0, .int .u8 a0] 56)).alloc (Obj.cells #[.int .u16 z1, .int .u8 a1] 56)) = W1 at *
  generalize hp : w.heap.size = p at *
  have HP := Lib.hid hp
  have K : ∀ W : World, Below W1.heap.size W1 W → LBox w W p z0 a0 z1 a1 ∧ Below p w W := fun W hW => ⟨HL.out.mono hW, hp ▸ (HL.out.mono hW).below⟩
  have KK := Lib.hid K; clear K HL hp
  have hD : Below W1.heap.size W1 W1.drew := (Below.refl _ _).drew
  go_region_held3 (fun w' => w'.cell? ⟨p, 0, none⟩ = some (Value.int .u16 z0) ∧ w'.cell? ⟨p, 1, none⟩ = some (Value.int .u8 a0) ∧ w'.cell? ⟨p + 1, 0, none⟩ = some (Value.int .u16 z1) ∧ w'.cell? ⟨p + 1, 1, none⟩ = some (Value.int .u8 a1)) (first | (with_reducible exact (KK.out _ hD).1.keep) | (with_reducible exact (KK.out _ hB1).1.keep) | (with_reducible exact (KK.out _ hB2).1.keep) | fail) (first
    | (go_at_call 51; (with_reducible refine (KT0.out _).mono ?_); rintro e w1 ⟨r1, rfl, hr1, hb1⟩; have hB1 := Below.chain hD hb1)
    | (go_at_call 51; (with_reducible refine (KT1.out _).mono ?_); rintro e w2 ⟨r2, rfl, hr2, hb2⟩; have hB2 := Below.chain hB1 hb2; have hq2 : ¬ 9223372036854775807 < 2 + r2.size := by omega))
  have L2 := (KK.out _ hB2).1
  have x0 := L2.d0; have x1 := L2.d1
  have H1 := Lib.hid (show r1.size ≤ 6000 by omega)
  have H2 : ((⟨#[49, 47]⟩ : ByteArray) ++ r2).size ≤ 6000 := by rw [ByteArray.size_append]; exact Nat.le_trans (Nat.add_le_add_left hr2 2) (by decide)
  generalize (⟨#[49, 47]⟩ : ByteArray) ++ r2 = t at *
  have HT := Lib.hid H2
  clear L2 hq2 hr2 hr1 hb1 hb2 H2 hD
  go_wp2_with (go_at_call 51; (with_reducible refine (KT1.out _).mono ?_); rintro e w3 ⟨r3, rfl, hr3, hb3⟩; refine Hid.out ?_)
  have hB3 := Below.chain hB2 hb3
  clear hb3 hr3 hB2 hB1 x0 x1 KT0 KT1
  refine Lib.hid ?_
  cases h49 : (r3.toList == [49])
  case false =>
    go_wp2_with (go_at_call 47; refine (K1.out r1 _ H1.out (KK.out _ hB3).2).mono ?_; rintro e w4 ⟨rfl, hb4⟩; refine Hid.out ?_)
    have hB4 := Below.chain hB3 hb4; clear hb4 hB3
    refine Lib.hid ?_
    go_wp2_with (go_at_call 48; refine (K2.out r1 _ H1.out (KK.out _ hB4).2).mono ?_; rintro e w5 ⟨rfl, hb5⟩; refine Hid.out ?_)
    have hB5 := Below.chain hB4 hb5; clear hb5 hB4
    refine Lib.hid ?_
    go_wp2_with (go_at_call 43; refine (K3.out t _ HT.out (KK.out _ hB5).2).mono ?_; rintro e w6 ⟨rfl, hb6⟩; refine Hid.out ?_)
    have hB6 := Below.chain hB5 hb6; clear hb6 hB5
    refine Lib.hid ?_
    go_wp2_with (go_at_call 44; refine (K4.out t _ HT.out (KK.out _ hB6).2).mono ?_; rintro e w7 ⟨rfl, hb7⟩; refine Hid.out ?_)
    have hB7 := Below.chain hB6 hb7; clear hb7 hB6
    refine Lib.hid ?_
    go_wp2_with (go_at_call 41; refine (K5.out r1 t _ H1.out HT.out (KK.out _ hB7).2).mono ?_; rintro e w8 ⟨rfl, hb8⟩; refine Hid.out ?_)
    have hB8 := Below.chain hB7 hb8; clear hb8 hB7
    refine Lib.hid ?_
    go_wp2_with (go_at_call 42; refine (K6.out r1 t _ H1.out HT.out (KK.out _ hB8).2).mono ?_; rintro e w9 ⟨rfl, hb9⟩; refine Hid.out ?_)
    have hB9 := Below.chain hB8 hb9; clear hb9 hB8
    refine Lib.hid ?_
    go_wp2_with (go_at_call 26; refine (KA.out _ (KK.out _ hB9).2).mono ?_; rintro e w10 ⟨rfl, hb10⟩; refine Hid.out ?_)
    have hB10 := Below.chain hB9 hb10; clear hb10 hB9
    refine Lib.hid ?_
    go_wp2_with (go_at_call 37; refine (K7.out r1 _ H1.out (KK.out _ hB10).2).mono ?_; rintro e w11 ⟨rfl, hb11⟩; refine Hid.out ?_)
    have hB11 := Below.chain hB10 hb11; clear hb11 hB10
    refine Lib.hid ?_
    go_wp2_with (go_at_call 38; refine (K8.out r1 _ H1.out (KK.out _ hB11).2).mono ?_; rintro e w12 ⟨rfl, hb12⟩; refine Hid.out ?_)
    have hB12 := Below.chain hB11 hb12; clear hb12 hB11
    refine Lib.hid ?_
    go_wp2_with (go_at_call 37; refine (K7.out t _ HT.out (KK.out _ hB12).2).mono ?_; rintro e w13 ⟨rfl, hb13⟩; refine Hid.out ?_)
    have hB13 := Below.chain hB12 hb13; clear hb13 hB12
    refine Lib.hid ?_
    go_wp2_with (go_at_call 38; refine (K8.out t _ HT.out (KK.out _ hB13).2).mono ?_; rintro e w14 ⟨rfl, hb14⟩; refine Hid.out ?_)
    have hB14 := Below.chain hB13 hb14; clear hb14 hB13
    refine Lib.hid ?_
    go_wp2
    refine bodyPost_ret (v := .bool true) (by simp [results, Tryz.results7, go_sem]) rfl ?_
    exact ⟨rfl, (KK.out _ hB14).1.below⟩
  case true =>
    have HO := Lib.hid (show ((⟨#[49]⟩ : ByteArray)).size ≤ 6000 by decide)
    go_wp2_with (go_at_call 47; refine (K1.out r1 _ H1.out (KK.out _ hB3).2).mono ?_; rintro e w4 ⟨rfl, hb4⟩; refine Hid.out ?_)
    have hB4 := Below.chain hB3 hb4; clear hb4 hB3
    refine Lib.hid ?_
    go_wp2_with (go_at_call 48; refine (K2.out r1 _ H1.out (KK.out _ hB4).2).mono ?_; rintro e w5 ⟨rfl, hb5⟩; refine Hid.out ?_)
    have hB5 := Below.chain hB4 hb5; clear hb5 hB4
    refine Lib.hid ?_
    go_wp2_with (go_at_call 43; refine (K3.out ⟨#[49]⟩ _ HO.out (KK.out _ hB5).2).mono ?_; rintro e w6 ⟨rfl, hb6⟩; refine Hid.out ?_)
    have hB6 := Below.chain hB5 hb6; clear hb6 hB5
    refine Lib.hid ?_
    go_wp2_with (go_at_call 44; refine (K4.out ⟨#[49]⟩ _ HO.out (KK.out _ hB6).2).mono ?_; rintro e w7 ⟨rfl, hb7⟩; refine Hid.out ?_)
    have hB7 := Below.chain hB6 hb7; clear hb7 hB6
    refine Lib.hid ?_
    go_wp2_with (go_at_call 41; refine (K5.out r1 ⟨#[49]⟩ _ H1.out HO.out (KK.out _ hB7).2).mono ?_; rintro e w8 ⟨rfl, hb8⟩; refine Hid.out ?_)
    have hB8 := Below.chain hB7 hb8; clear hb8 hB7
    refine Lib.hid ?_
    go_wp2_with (go_at_call 42; refine (K6.out r1 ⟨#[49]⟩ _ H1.out HO.out (KK.out _ hB8).2).mono ?_; rintro e w9 ⟨rfl, hb9⟩; refine Hid.out ?_)
    have hB9 := Below.chain hB8 hb9; clear hb9 hB8
    refine Lib.hid ?_
    go_wp2_with (go_at_call 26; refine (KA.out _ (KK.out _ hB9).2).mono ?_; rintro e w10 ⟨rfl, hb10⟩; refine Hid.out ?_)
    have hB10 := Below.chain hB9 hb10; clear hb10 hB9
    refine Lib.hid ?_
    go_wp2_with (go_at_call 37; refine (K7.out r1 _ H1.out (KK.out _ hB10).2).mono ?_; rintro e w11 ⟨rfl, hb11⟩; refine Hid.out ?_)
    have hB11 := Below.chain hB10 hb11; clear hb11 hB10
    refine Lib.hid ?_
    go_wp2_with (go_at_call 38; refine (K8.out r1 _ H1.out (KK.out _ hB11).2).mono ?_; rintro e w12 ⟨rfl, hb12⟩; refine Hid.out ?_)
    have hB12 := Below.chain hB11 hb12; clear hb12 hB11
    refine Lib.hid ?_
    go_wp2_with (go_at_call 37; refine (K7.out ⟨#[49]⟩ _ HO.out (KK.out _ hB12).2).mono ?_; rintro e w13 ⟨rfl, hb13⟩; refine Hid.out ?_)
    have hB13 := Below.chain hB12 hb13; clear hb13 hB12
    refine Lib.hid ?_
    go_wp2_with (go_at_call 38; refine (K8.out ⟨#[49]⟩ _ HO.out (KK.out _ hB13).2).mono ?_; rintro e w14 ⟨rfl, hb14⟩; refine Hid.out ?_)
    have hB14 := Below.chain hB13 hb14; clear hb14 hB13
    refine Lib.hid ?_
    go_wp2
    refine bodyPost_ret (v := .bool true) (by simp [results, Tryz.results7, go_sem]) rfl ?_
    exact ⟨rfl, (KK.out _ hB14).1.below⟩

theorem ratR2_lim (q : List UInt8 → List UInt8 → Value) (h : ∀ x y, ∃ (u : ByteArray) (e : Int), q x y = .tuple #[.string u, .int .i64 e]) (c : ByteArray) : ∃ (um : ByteArray → ByteArray) (em : ByteArray → Int), ∀ s : ByteArray, q (bytes s) (bytes c) = .tuple #[.string (um s), .int .i64 (em s)] :=
  ⟨fun s => Classical.choose (h (bytes s) (bytes c)), fun s => Classical.choose (Classical.choose_spec (h (bytes s) (bytes c))), fun s => Classical.choose_spec (Classical.choose_spec (h (bytes s) (bytes c)))⟩
theorem lim_walk (z0 a0 z1 a1 : Nat) (w : World) (hz0 : z0 ≤ 65535) (ha0 : a0 ≤ 255) (hz1 : z1 ≤ 65535) (ha1 : a1 ≤ 255)
    (htab : Lib.TabIs Tryz.prog w "internal/strconv.uint64pow10" .u64 Lib.pow10Tab) :
    Calls Tryz.prog 7 #[.agg #[.int .u16 z0, .int .u8 a0], .agg #[.int .u16 z1, .int .u8 a1]] w fun e w' => e = .returned (.bool true) ∧ Below w.heap.size w w' := by
  have hT := Lib.tabBelow_of_tabIs htab
  have CA : ∀ W : World, Below w.heap.size w W → Calls Tryz.prog 26 #[] W (Bret (.bool true) W) := fun W hW => awake02 W (hT.on hW).here
  obtain ⟨um, em, hm⟩ := ratR2_lim (ratR2 mulQ) (fun x y => by obtain ⟨u, e, h⟩ := ratR2_mulQ_parts x y; exact ⟨u, e, h⟩) ⟨#[51]⟩
  obtain ⟨ua, ea, ha⟩ := ratR2_lim (ratR2 addQ) (fun x y => by obtain ⟨u, e, h⟩ := ratR2_addQ_parts x y; exact ⟨u, e, h⟩) ⟨#[49]⟩
  have hc : ∀ s t : ByteArray, ∃ (c e : Int), ratCmp (bytes s) (bytes t) = .tuple #[.int .i64 c, .int .i64 e] := fun s t => by
    obtain ⟨c, e, h⟩ := ratCmp_parts (bytes s) (bytes t); exact ⟨c, e, h⟩
  refine lim_core z0 a0 z1 a1 w hz0 ha0 hz1 ha1 um ua em ea (fun s => (rerr (bytes s) : Nat)) (fun s t => Classical.choose (hc s t)) (fun s t => Classical.choose (Classical.choose_spec (hc s t))) ?_ ?_ ?_ ?_ ?_ ?_ ?_ ?_ CA
  · intro s W hs hW; rw [← hm s]; exact ratMul s _ W (by omega) (by decide) (hT.on hW).here
  · intro s W hs hW; rw [← hm s]; exact refMul02 s _ W (by omega) (by decide)
  · intro s W hs hW; rw [← ha s]; exact ratAdd s _ W (by omega) (by decide) (hT.on hW).here
  · intro s W hs hW; rw [← ha s]; exact refAdd02 s _ W (by omega) (by decide)
  · intro s t W hs ht hW; rw [← Classical.choose_spec (Classical.choose_spec (hc s t))]; exact ratCompare s t W (by omega) (by omega) (hT.on hW).here
  · intro s t W hs ht hW; rw [← Classical.choose_spec (Classical.choose_spec (hc s t))]; exact refCompare02 s t W (by omega) (by omega)
  · intro s W hs hW; exact ratCheck s W (by omega) (hT.on hW).here
  · intro s W hs hW; exact refCheck02 s W (by omega)
end Go.Proofs.YtbadibbdoljjhaaGreatDoor

