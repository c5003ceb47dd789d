import Derived.Test.YtmnbjkbkjmgmkaaGreatDoorCut5
import Derived.Test.YtmnbjkbkjmgmkaaGreatDoorCut4

set_option linter.unusedVariables false
set_option linter.unusedSimpArgs false
set_option linter.unusedVariables false
namespace Go.Proofs.YtmnbjkbkjmgmkaaGreatDoor
open Go Go.Proofs Go.RowKit
theorem addr_add (b o j : Nat) : (⟨b, o, none⟩ : Addr).add j = ⟨b, o + j, none⟩ := by unfold Addr.add; split <;> simp_all
theorem news_at {w : World} {b o c : Nat} {X : List Nat} (h : RowAt w (some ⟨b, o, none⟩) c X) : ∀ j u, (cellsOf X)[j]? = some u → w.cell? ((⟨b, o, none⟩ : Addr).add j) = some u := by
  intro j u hj
  have hjl : j < X.length := by
    have := (List.getElem?_eq_some_iff.1 hj).1
    rwa [cellsOf_length] at this
  rw [cellsOf_get X j hjl] at hj
  injection hj with hj
  rw [← hj, addr_add]
  exact h.get j hjl
theorem owns_shape {w : World} {base n : Nat} {v : Value} {l : List Nat} (h : w.ownsRow base 97 1 v n (cellsOf l)) (hn : 0 < n) : ∃ g cap, v = .slice (some ⟨g, 0, none⟩) n cap := by
  rcases h.2 with ⟨_, h0⟩ | ⟨g, cap, cur, hv, _⟩
  · omega
  · exact ⟨g, cap, hv⟩
theorem subtract_nil (ao ap : Option Addr) (c d : Nat) (t : Nat) (w : World) :
    Calls Tryz.prog 96 #[.slice ao 0 c, .slice ap 0 d, .int .u64 t] w fun e w' => e = .returned (.int .u64 0) ∧ w = w' := by
  go_enter Tryz.func96, Tryz.ntmps96
  go_wp2_with fail
  go_rounds 1
  go_rounds 1
  go_ret
  exact ⟨rfl, rfl⟩
theorem sub_exact {X X' Y : List Nat} {q : Nat} (h : val X + q * 1000000000 ^ X.length = val X' + 1 * val Y) (hl : X'.length = X.length) (hs : Small X') (hle : val Y ≤ val X) : val X' = val X - val Y := by
  have h1 := val_lt hs
  rw [hl] at h1
  rcases Nat.eq_zero_or_pos q with rfl | hq
  · omega
  · have : 1 * 1000000000 ^ X.length ≤ q * 1000000000 ^ X.length := Nat.mul_le_mul_right _ hq
    omega
theorem subtract_once (b c d n m : Nat) (ap : Option Addr) (X Y : List Nat) (w : World) (hb : Blk w b X) (hX : Small X) (hy : RowAt w ap d Y) (hY : Small Y)
    (hyb : ∀ b' o, ap = some ⟨b', o, none⟩ → Y ≠ [] → b' ≠ b) (hn : X.length = n) (hm : Y.length = m) (hmn : m ≤ n) (hnb : n ≤ 1000000000000) (hle : val Y ≤ val X) :
    Calls Tryz.prog 96 #[.slice (some ⟨b, 0, none⟩) n c, .slice ap m d, .int .u64 1] w fun e w' => ∃ X' q, e = .returned (.int .u64 q) ∧ Blk w' b X' ∧ X'.length = n ∧ Small X' ∧ val X' = val X - val Y ∧ w.grownBy w' (some b) := by
  refine (subtract_any b c d n m ap [] X Y [] 1 w (by simpa using hb) hX hy hY hyb hn hm hmn hnb (by decide)).mono fun e w' h => ?_
  obtain ⟨q, X', rfl, h1, h2, h3, _, h5, h6⟩ := h
  exact ⟨X', q, rfl, by simpa using h1, by rw [h2, hn], h3, sub_exact h5 h2 h3 hle, h6⟩
set_option maxHeartbeats 4000000 in
theorem dist_loop (x y : Nat) (vx vy : Value) (w : World) (args : Array Value) (hx : NumAt w vx x) (hy : NumAt w vy y) (hbig : (limbs x).length ≤ 1000000000000) (hne : limbs x ≠ []) (hle : y ≤ x)
    (hargs : (args = #[vx, vy] ∧ ¬ x < y) ∨ (args = #[vy, vx] ∧ y < x)) :
    Calls Tryz.prog 74 args w (RetN (x - y) w) := by
  obtain ⟨i0, hi, hz0, hz1, hz2⟩ := info_parts infoU32
  have CA : ¬ x < y → ∃ r : Int, decide (r < 0) = false ∧ ∀ W : World, Below w.heap.size w W → Calls Tryz.prog 91 #[vx, vy] W fun e w' => e = .returned (.int .i64 r) ∧ Below W.heap.size W w' := fun h =>
    ⟨cmpN x y, by (unfold cmpN; rw [if_neg h]; split <;> decide), fun W hW => compare_any x y vx vy W (hx.mono hW) (hy.mono hW)⟩
  have CB : y < x → ∃ r : Int, decide (r < 0) = true ∧ ∀ W : World, Below w.heap.size w W → Calls Tryz.prog 91 #[vy, vx] W fun e w' => e = .returned (.int .i64 r) ∧ Below W.heap.size W w' := fun h =>
    ⟨cmpN y x, by (unfold cmpN; rw [if_pos h]; decide), fun W hW => compare_any y x vy vx W (hy.mono hW) (hx.mono hW)⟩
  obtain ⟨ao, c, rfl, hx⟩ := hx
  obtain ⟨ap, d, rfl, hy⟩ := hy
  have hsx := limbs_small x; have hsy := limbs_small y
  have e1 := val_limbs x; have e2 := val_limbs y
  have hmn := limbs_length_mono hle
  obtain ⟨bx, ox, rfl⟩ := hx.addr hne
  generalize limbs x = X at *
  generalize limbs y = Y at *
  have hxb := hx.block hne
  have HX := Lib.hid hx; have HY := Lib.hid hy
  have h1 := hx.1; have h2 := hx.2.1; have h3 := hy.1; have h4 := hy.2.1
  generalize hn : X.length = n at *
  generalize hm : Y.length = m at *
  have hcl : (cellsOf X).length = n * 1 := by rw [cellsOf_length, hn, Nat.mul_one]
  have HCL := Lib.hid hcl; clear hcl
  have hn0 : 0 < n := by rw [← hn]; exact List.length_pos_iff.2 hne
  have HN := Lib.hid hn; have HM := Lib.hid hm; have HE1 := Lib.hid e1; have HE2 := Lib.hid e2; have HSX := Lib.hid hsx; have HSY := Lib.hid hsy
  have HMN := Lib.hid hmn; have HLE := Lib.hid hle
  have HH := Lib.hid (And.intro h1 (And.intro h2 (And.intro h3 h4)))
  have HCA := Lib.hid CA; have HCB := Lib.hid CB
  clear hn hm e1 e2 hx hy hsx hsy h1 h2 h3 h4 hmn hle CA CB hne
  rcases hargs with ⟨rfl, hlt⟩ | ⟨rfl, hlt⟩
  · obtain ⟨r, hr, C1⟩ := HCA.out hlt
    have HC := Lib.hid C1; clear C1 HCA HCB
    have HLT := Lib.hid hlt; clear hlt
    go_enter Tryz.func74, Tryz.ntmps74
    go_wp2_with fail
    have A := (three_new w (Value.slice (some { block := bx, off := ox }) n c) (Value.slice ap m d) (Value.slice none 0 0) 71 71 71).boxes
    generalize (((w.alloc (Obj.cells #[Value.slice (some { block := bx, off := ox }) n c] 71)).alloc (Obj.cells #[Value.slice ap m d] 71)).alloc (Obj.cells #[Value.slice none 0 0] 71)) = V0 at A ⊢
    refine (HC.out _ A.below).mono ?_
    rintro e w1 ⟨rfl, hb1⟩
    have B := A.mono hb1
    clear A hb1
    have k1 := B.c1; have k2 := B.c2; have k3 := B.c3; have g1 := B.f1; have g2 := B.f2
    go_wp2_with (at_builtin; refine wpList_append_own _ rfl _ _ 69 rfl (w.heap.size + 1 + 1 + 1) 97 i0 (.int .u32 0) 1 4 Tryz.underlying69 hi hz0 hz1 hz2 rfl (by decide) _ _ _ rfl (World.ownsRow_nil _ _ _ _) ⟨bx, ox, none⟩ n c (cellsOf X) rfl HCL.out ?c1 ?c2 ?c3 ?c4 ?c5 ?_)
    case c1 => exact news_at (HX.out.mono B.below)
    case c2 => intro u hu; obtain ⟨z, _, rfl⟩ := List.mem_map.1 hu; rfl
    case c3 => unfold maxLen; omega
    case c4 => omega
    case c5 => have := B.lt; omega
    intro v' w2 hown hgrow _
    obtain ⟨g, cap, rfl⟩ := owns_shape hown hn0
    obtain ⟨hbk, -, hc1, hc2, hbg⟩ := blk_of_owns hown
    have B2 := B.mono (below_of_grown hgrow)
    have k4 := B2.c2; have k5 := B2.c3; have g5 := B2.f3
    have hgne : w.heap.size + 1 + 1 < g := by omega
    have HOWN := Lib.hid hbk; have HGR := Lib.hid hgrow
    clear hown hgrow hbk k1 k2 k3 g1 g2 HC HCL
    go_wp2_with fail
    refine (subtract_once g cap d n m ap X Y w2 HOWN.out HSX.out (HY.out.mono B2.below) HSY.out (fun b' o he hy0 => ?_) HN.out HM.out HMN.out hbig ?_).mono ?_
    · have hy2 := HY.out
      rw [he] at hy2
      have := hy2.block hy0
      omega
    · rw [HE1.out, HE2.out]; exact HLE.out
    rintro e w3 ⟨X', q, rfl, hbk3, hl3, hs3, hv3, hg3⟩
    have B3 := B2.grown hg3 hgne
    have k6 := B3.c3; have g6 := B3.f3
    have HB3 := Lib.hid hbk3; have HL3 := Lib.hid hl3; have HS3 := Lib.hid hs3; have HV3 := Lib.hid hv3
    clear hbk3 hl3 hs3 hv3 hg3 k4 k5 g5
    go_wp2_with fail
    refine (trimmed_at X' n _ _ _ HL3.out (HB3.out.row (by rw [HL3.out]; exact hc1) hc2) HS3.out).mono ?_
    rintro e w4 ⟨v, rfl, hv, hb4⟩
    obtain ⟨ao', c', rfl, hr4⟩ := hv
    have B4 := B3.mono hb4
    have k7 := B4.c3; have g7 := B4.f3
    clear k6 g6
    go_wp2
    refine bodyPost_ret (v := .agg #[.slice ao' (limbs (val X')).length c']) (by simp [results, Tryz.results74, go_sem, cellSet k7]) rfl ?_
    have e0 : val X' = x - y := by rw [HV3.out, HE1.out, HE2.out]
    rw [e0] at hr4 ⊢
    exact ⟨_, rfl, ⟨ao', c', rfl, hr4.box k7 _⟩, B4.below.setCell (p := ⟨w.heap.size + 1 + 1, 0, none⟩) (by simp; omega) _⟩
  · obtain ⟨r, hr, C1⟩ := HCB.out hlt
    have HC := Lib.hid C1; clear C1 HCA HCB
    have HLT := Lib.hid hlt; clear hlt
    go_enter Tryz.func74, Tryz.ntmps74
    go_wp2_with fail
    have A := (three_new w (Value.slice ap m d) (Value.slice (some { block := bx, off := ox }) n c) (Value.slice none 0 0) 71 71 71).boxes
    generalize (((w.alloc (Obj.cells #[Value.slice ap m d] 71)).alloc (Obj.cells #[Value.slice (some { block := bx, off := ox }) n c] 71)).alloc (Obj.cells #[Value.slice none 0 0] 71)) = V0 at A ⊢
    refine (HC.out _ A.below).mono ?_
    rintro e w1 ⟨rfl, hb1⟩
    have B := A.mono hb1
    clear A hb1
    have k1 := B.c1; have k2 := B.c2; have k3 := B.c3; have g1 := B.f1; have g2 := B.f2
    go_wp2_with (at_builtin; refine wpList_append_own _ rfl _ _ 69 rfl (w.heap.size + 1 + 1 + 1) 97 i0 (.int .u32 0) 1 4 Tryz.underlying69 hi hz0 hz1 hz2 rfl (by decide) _ _ _ rfl (World.ownsRow_nil _ _ _ _) ⟨bx, ox, none⟩ n c (cellsOf X) rfl HCL.out ?c1 ?c2 ?c3 ?c4 ?c5 ?_)
    case c1 => exact news_at (HX.out.mono (B.swap (Value.slice (some { block := bx, off := ox }) n c) (Value.slice ap m d)).below)
    case c2 => intro u hu; obtain ⟨z, _, rfl⟩ := List.mem_map.1 hu; rfl
    case c3 => unfold maxLen; omega
    case c4 => omega
    case c5 => have := B.lt; simp [World.setCell]; omega
    intro v' w2 hown hgrow _
    obtain ⟨g, cap, rfl⟩ := owns_shape hown hn0
    obtain ⟨hbk, -, hc1, hc2, hbg⟩ := blk_of_owns hown
    have B2 := (B.swap (Value.slice (some { block := bx, off := ox }) n c) (Value.slice ap m d)).mono (below_of_grown hgrow)
    have k4 := B2.c2; have k5 := B2.c3; have g5 := B2.f3
    have hgne : w.heap.size + 1 + 1 < g := by omega
    have HOWN := Lib.hid hbk; have HGR := Lib.hid hgrow
    clear hown hgrow hbk k1 k2 k3 g1 g2 HC HCL
    go_wp2_with fail
    refine (subtract_once g cap d n m ap X Y w2 HOWN.out HSX.out (HY.out.mono B2.below) HSY.out (fun b' o he hy0 => ?_) HN.out HM.out HMN.out hbig ?_).mono ?_
    · have hy2 := HY.out
      rw [he] at hy2
      have := hy2.block hy0
      omega
    · rw [HE1.out, HE2.out]; exact HLE.out
    rintro e w3 ⟨X', q, rfl, hbk3, hl3, hs3, hv3, hg3⟩
    have B3 := B2.grown hg3 hgne
    have k6 := B3.c3; have g6 := B3.f3
    have HB3 := Lib.hid hbk3; have HL3 := Lib.hid hl3; have HS3 := Lib.hid hs3; have HV3 := Lib.hid hv3
    clear hbk3 hl3 hs3 hv3 hg3 k4 k5 g5
    go_wp2_with fail
    refine (trimmed_at X' n _ _ _ HL3.out (HB3.out.row (by rw [HL3.out]; exact hc1) hc2) HS3.out).mono ?_
    rintro e w4 ⟨v, rfl, hv, hb4⟩
    obtain ⟨ao', c', rfl, hr4⟩ := hv
    have B4 := B3.mono hb4
    have k7 := B4.c3; have g7 := B4.f3
    clear k6 g6
    go_wp2
    refine bodyPost_ret (v := .agg #[.slice ao' (limbs (val X')).length c']) (by simp [results, Tryz.results74, go_sem, cellSet k7]) rfl ?_
    have e0 : val X' = x - y := by rw [HV3.out, HE1.out, HE2.out]
    rw [e0] at hr4 ⊢
    exact ⟨_, rfl, ⟨ao', c', rfl, hr4.box k7 _⟩, B4.below.setCell (p := ⟨w.heap.size + 1 + 1, 0, none⟩) (by simp; omega) _⟩
set_option maxHeartbeats 1000000 in
theorem dist_none (ap : Option Addr) (d : Nat) (w : World) :
    Calls Tryz.prog 74 #[.agg #[.slice none 0 0], .agg #[.slice ap 0 d]] w (RetN 0 w) := by
  obtain ⟨i0, hi, hz0, hz1, hz2⟩ := info_parts infoU32
  go_enter Tryz.func74, Tryz.ntmps74
  go_wp2_with fail
  have A := (three_new w (Value.slice none 0 0) (Value.slice ap 0 d) (Value.slice none 0 0) 71 71 71).boxes
  generalize (((w.alloc (Obj.cells #[Value.slice none 0 0] 71)).alloc (Obj.cells #[Value.slice ap 0 d] 71)).alloc (Obj.cells #[Value.slice none 0 0] 71)) = V0 at A ⊢
  refine (compare_nil none ap 0 d V0).mono ?_
  rintro e w1 ⟨rfl, hb1⟩
  have B := A.mono hb1
  clear A hb1
  have k1 := B.c1; have k2 := B.c2; have k3 := B.c3; have g3 := B.f3
  go_wp2_with (first
    | (at_builtin; refine wpList_append_own_none rfl _ _ 69 rfl (w.heap.size + 1 + 1 + 1) 97 i0 1 Tryz.underlying69 hi _ _ _ rfl (World.ownsRow_nil _ _ _ _) rfl ?_)
    | (go_at_call 96; refine (subtract_nil _ _ _ _ 1 _).mono ?_; rintro e w' ⟨rfl, rfl⟩)
    | (go_at_call 89; refine (trimmed_nil _ _ _).mono ?_; rintro e w2 ⟨rfl, hb2⟩; have B2 := B.mono hb2; have k4 := B2.c3; have g4 := B2.f3; clear k1 k2 k3 g3))
  refine bodyPost_ret (v := .agg #[.slice none 0 0]) (by simp [results, Tryz.results74, go_sem, cellSet k4]) rfl ?_
  refine ⟨_, rfl, ⟨none, 0, by rw [limbs_zero]; rfl, ?_⟩, B2.below.setCell (p := ⟨w.heap.size + 1 + 1, 0, none⟩) (by simp; omega) _⟩
  rw [limbs_zero]; exact ⟨Nat.le_refl _, by decide, .inl ⟨rfl, fun _ => rfl⟩⟩
set_option maxHeartbeats 1000000 in
theorem dist_some (ad : Addr) (c : Nat) (ap : Option Addr) (d : Nat) (w : World) :
    Calls Tryz.prog 74 #[.agg #[.slice (some ad) 0 c], .agg #[.slice ap 0 d]] w (RetN 0 w) := by
  obtain ⟨i0, hi, hz0, hz1, hz2⟩ := info_parts infoU32
  go_enter Tryz.func74, Tryz.ntmps74
  go_wp2_with fail
  have A := (three_new w (Value.slice (some ad) 0 c) (Value.slice ap 0 d) (Value.slice none 0 0) 71 71 71).boxes
  generalize (((w.alloc (Obj.cells #[Value.slice (some ad) 0 c] 71)).alloc (Obj.cells #[Value.slice ap 0 d] 71)).alloc (Obj.cells #[Value.slice none 0 0] 71)) = V0 at A ⊢
  refine (compare_nil (some ad) ap c d V0).mono ?_
  rintro e w1 ⟨rfl, hb1⟩
  have B := A.mono hb1
  clear A hb1
  have k1 := B.c1; have k2 := B.c2; have k3 := B.c3; have g3 := B.f3
  go_wp2_with (at_builtin; refine wpList_append_own _ rfl _ _ 69 rfl (w.heap.size + 1 + 1 + 1) 97 i0 (.int .u32 0) 1 4 Tryz.underlying69 hi hz0 hz1 hz2 rfl (by decide) _ _ _ rfl (World.ownsRow_nil _ _ _ _) ad 0 c [] rfl rfl ?c1 ?c2 ?c3 ?c4 ?c5 ?_)
  case c1 => intro j u hj; simp at hj
  case c2 => intro u hu; cases hu
  case c3 => decide
  case c4 => decide
  case c5 => have := B.lt; omega
  intro v' w2 _ hgrow hnil
  subst hnil
  have B2 := B.mono (below_of_grown hgrow)
  clear hgrow k1 k2 k3 g3
  have k1 := B2.c1; have k2 := B2.c2; have k3 := B2.c3; have g3 := B2.f3
  go_wp2_with (first
    | (go_at_call 96; refine (subtract_nil _ _ _ _ 1 _).mono ?_; rintro e w' ⟨rfl, rfl⟩)
    | (go_at_call 89; refine (trimmed_nil _ _ _).mono ?_; rintro e w3 ⟨rfl, hb2⟩; have B3 := B2.mono hb2; have k4 := B3.c3; have g4 := B3.f3; clear k1 k2 k3 g3))
  refine bodyPost_ret (v := .agg #[.slice none 0 0]) (by simp [results, Tryz.results74, go_sem, cellSet k4]) rfl ?_
  refine ⟨_, rfl, ⟨none, 0, by rw [limbs_zero]; rfl, ?_⟩, B3.below.setCell (p := ⟨w.heap.size + 1 + 1, 0, none⟩) (by simp; omega) _⟩
  rw [limbs_zero]; exact ⟨Nat.le_refl _, by decide, .inl ⟨rfl, fun _ => rfl⟩⟩
theorem dist_any (x y : Nat) (vx vy : Value) (w : World) (hx : NumAt w vx x) (hy : NumAt w vy y) (h1 : (limbs x).length ≤ 1000000000000) (h2 : (limbs y).length ≤ 1000000000000) :
    Calls Tryz.prog 74 #[vx, vy] w (RetN (if x < y then y - x else x - y) w) := by
  by_cases h : x < y
  · rw [if_pos h]
    exact dist_loop y x vy vx w _ hy hx h2 (fun c => by have := limbs_nil_iff.1 c; omega) (by omega) (.inr ⟨rfl, h⟩)
  · rw [if_neg h]
    by_cases h0 : limbs x = []
    · have ex := limbs_nil_iff.1 h0
      have ey : y = 0 := by omega
      subst ex; subst ey
      obtain ⟨ao, c, rfl, hr⟩ := hx
      obtain ⟨ap, d, rfl, -⟩ := hy
      have hc := hr.2.2
      rw [limbs_zero] at hc ⊢
      cases ao with
      | none =>
        have hc0 : c = 0 := by
          rcases hc with ⟨_, hc⟩ | ⟨b, off, he, _⟩
          · exact hc rfl
          · cases he
        subst hc0
        exact dist_none ap d w
      | some ad => exact dist_some ad c ap d w
    · exact dist_loop x y vx vy w _ hx hy h1 h0 (by omega) (.inl ⟨rfl, h⟩)
set_option maxHeartbeats 2000000 in
theorem add_loop (x y : Nat) (vx vy : Value) (w : World) (args : Array Value) (hx : NumAt w vx x) (hy : NumAt w vy y) (hbig : (limbs x).length ≤ 1000000000000)
    (hargs : (args = #[vx, vy] ∧ ¬ (limbs x).length < (limbs y).length) ∨ (args = #[vy, vx] ∧ (limbs y).length < (limbs x).length)) :
    Calls Tryz.prog 60 args w (RetN (x + y) w) := by
  obtain ⟨i0, hi, hz0, hz1, hz2⟩ := info_parts infoU32
  obtain ⟨ao, c, rfl, hx⟩ := hx
  obtain ⟨ap, d, rfl, hy⟩ := hy
  have hsx := limbs_small x; have hsy := limbs_small y
  have e1 := val_limbs x; have e2 := val_limbs y
  generalize limbs x = X at *
  generalize limbs y = Y at *
  have HX := Lib.hid hx; have HY := Lib.hid hy
  have h1 := hx.1; have h2 := hx.2.1; have h3 := hy.1; have h4 := hy.2.1
  generalize hn : X.length = n at *
  generalize hm : Y.length = m at *
  have HN := Lib.hid hn; have HM := Lib.hid hm; have HE1 := Lib.hid e1; have HE2 := Lib.hid e2; have HSX := Lib.hid hsx; have HSY := Lib.hid hsy
  have HH := Lib.hid (And.intro h1 (And.intro h2 (And.intro h3 h4)))
  clear hn hm e1 e2 hx hy hsx hsy h1 h2 h3 h4
  rcases hargs with ⟨rfl, hle⟩ | ⟨rfl, hle⟩
  all_goals
    go_enter Tryz.func60, Tryz.ntmps60
    go_wp2_with (at_make; refine wpList_make_full _ rfl _ _ 69 rfl (w.heap.size + 3) 97 i0 (.int .u32 0) 1 Tryz.underlying69 hi hz0 hz1 .i64 .i64 _ _ (n + 1) rfl rfl ?a1 ?a2 ?a3 ?a4 ?a5 ?_)
    case a1 => simp
    case a2 => simp
    case a3 => rw [hz2]; omega
    case a4 => unfold maxLen; omega
    case a5 => simp
    intro W0 hown hg
    have A := three_new w (Value.slice ao n c) (Value.slice ap m d) (Value.slice none 0 0) 71 71 71
    have hb0 := blk_of_made hown
    clear hown
    generalize (((w.alloc (Obj.cells #[Value.slice ao n c] 71)).alloc (Obj.cells #[Value.slice ap m d] 71)).alloc (Obj.cells #[Value.slice none 0 0] 71)) = V0 at A hg
    generalize hgg : w.heap.size + 1 + 1 + 1 = g at hb0 ⊢
    have hVg : V0.heap.size = g := by rw [A.size, ← hgg]
    have HG := Lib.hid hgg; have HV := Lib.hid hVg; clear hgg hVg
    have k1 := gcell hg A.c1 (by simp)
    have k2 := gcell hg A.c2 (by simp)
    go_wp2_with fail
    have HB0 := Lib.hid hb0; clear hb0
    have hBV : Below w.heap.size w W0 := Below.chain A.below (below_of_grown hg)
    go_loopw [6, 26] (fun cv iv wr => ∃ (i k : Nat) (S : List Nat), i ≤ n ∧ iv = .int .i64 i ∧ cv = .int .u32 k ∧ Blk wr g S ∧ AddInv X Y S n i k ∧ W0.grownBy wr (some g)) (fun _ iv _ => n - (intOf iv).toNat)
    case atStart => exact ⟨0, 0, _, Nat.zero_le _, rfl, rfl, HB0.out, AddInv.start X Y n, grown_refl _ _⟩
    case round =>
      obtain ⟨i, k, S, hi, rfl, rfl, hblk, hinv, hgr⟩ := hrel
      have hg2 : w.heap.size + 1 + 1 + 1 = g := HG.out
      have hbw : Below w.heap.size w wr := below_grown hBV hgr (by omega)
      have d2 : wr.cell? ⟨w.heap.size + 1, 0, none⟩ = some (Value.slice ap m d) := gcell hgr k2 (by simp; omega)
      have HI := Lib.hid hinv; have HGR := Lib.hid hgr; have HBW := Lib.hid hbw; have HBL := Lib.hid hblk
      have hk1 := hinv.carry
      have hSl := hinv.len
      have HSL := Lib.hid hSl
      clear hinv hgr hbw hblk k1 k2 hBV hSl hg2
      by_cases hin : i < n
      · obtain ⟨bx, ox, rfl⟩ := HX.out.addr (fun h => by have := HN.out; rw [h] at this; simp at this; omega)
        have cx := (HX.out.mono HBW.out).get i (by rw [HN.out]; exact hin)
        have cs := HBL.out.cell i (by rw [HSL.out]; omega)
        have fs := HBL.out.frozen i
        have hstep := HI.out.step hin HSX.out HSY.out
        have ha := HSX.out.getD i
        have hb := HSY.out.getD i
        have hy0 : m ≤ i → Y.getD i 0 = 0 := fun h => getD_ge _ _ (by rw [HM.out]; exact h)
        have cy : i < m → ∃ by_ oy, ap = some ⟨by_, oy, none⟩ ∧ wr.cell? ⟨by_, oy + i, none⟩ = some (.int .u32 (Y.getD i 0 : Nat)) := fun h => by
          obtain ⟨by_, oy, rfl⟩ := HY.out.addr (fun h0 => by have := HM.out; rw [h0] at this; simp at this; omega)
          exact ⟨by_, oy, rfl, (HY.out.mono HBW.out).get i (by rw [HM.out]; exact h)⟩
        have hset := HBL.out.set i ((X.getD i 0 + k + Y.getD i 0) % 1000000000)
        generalize S.getD i 0 = s0 at *
        generalize X.getD i 0 = a at *
        generalize Y.getD i 0 = b at *
        have ev : (((a + k + b) % 1000000000 : Nat) : Int) = ((a : Int) + (k : Int) + (b : Int)) % 1000000000 := by omega
        rw [ev] at hset
        have HST := Lib.hid hstep; have HSE := Lib.hid hset; have HY0 := Lib.hid hy0
        clear hstep hset hy0 ev
        by_cases him : i < m
        · obtain ⟨by_, oy, rfl, cy'⟩ := cy him
          clear cy
          go_wp2
          go_roundw
          case rel => exact ⟨i + 1, (a + k + b) / 1000000000, _, by omega, by go_num, by go_num, HSE.out, HST.out, grown_set HGR.out _ _⟩
          case measure => simp [intOf]; omega
        · have hb0 : b = 0 := HY0.out (by omega)
          subst hb0
          clear cy
          simp only [Int.natCast_zero, Int.add_zero] at HSE
          go_wp2
          go_roundw
          case rel => exact ⟨i + 1, (a + k + 0) / 1000000000, _, by omega, by go_num, by go_num, HSE.out, HST.out, grown_set HGR.out _ _⟩
          case measure => simp [intOf]; omega
      · have hi0 : i = n := by omega
        subst hi0
        have cs := HBL.out.cell i (by rw [HSL.out]; omega)
        have fs := HBL.out.frozen i
        have hset := HBL.out.set i k
        have hdone := HI.out.done HN.out (by rw [HM.out]; omega)
        rw [HE1.out, HE2.out] at hdone
        obtain ⟨q1, q2, q3⟩ := hdone
        have d1 : wr.cell? ⟨w.heap.size, 0, none⟩ = some (Value.slice ao i c) := gcell HGR.out (gcell hg A.c1 (by simp)) (by have := HG.out; simp; omega)
        have cR : wr.cell? ⟨w.heap.size + 1 + 1, 0, none⟩ = some (Value.slice none 0 0) := gcell HGR.out (gcell hg A.c3 (by simp)) (by have := HG.out; simp; omega)
        have fR : wr.frozen? ⟨w.heap.size + 1 + 1, 0, none⟩ = false := gfree HGR.out (by have := hg.size; have := A.size; simp; omega) (gfree hg (by have := A.size; simp; omega) A.f3 (by simp)) (by have := HG.out; simp; omega)
        have gl := HBL.out.lt
        have gne : w.heap.size + 1 + 1 < g := by have := HG.out; omega
        generalize S.getD i 0 = s0 at *
        have HSE := Lib.hid hset; have Q1 := Lib.hid q1; have Q2 := Lib.hid q2; have Q3 := Lib.hid q3
        clear hset q1 q2 q3
        go_wp2_with (go_at_call 89; refine (trimmed_at (S.set i k) _ _ _ _ Q2.out (HSE.out.row (by rw [Q2.out]; exact Nat.le_refl _) (by omega)) Q1.out).mono ?_; rintro e w2 ⟨v, rfl, hv, hb2⟩; obtain ⟨ao', c', rfl, hr2⟩ := hv; have cR2 := (hb2.cell (p := ⟨w.heap.size + 1 + 1, 0, none⟩) (by simp; omega)); have fR2 := (hb2.frozen (p := ⟨w.heap.size + 1 + 1, 0, none⟩) (by simp; omega)))
        have cR3 : w2.cell? ⟨w.heap.size + 1 + 1, 0, none⟩ = some (Value.slice none 0 0) := by rw [cR2]; exact gcell (grown_set (grown_refl wr _) _ _) cR (by simp; omega)
        refine bodyPost_ret (v := .agg #[.slice ao' (limbs (val (S.set i k))).length c']) (by simp [results, Tryz.results60, go_sem, cellSet cR3]) rfl ?_
        refine ⟨_, rfl, ⟨ao', c', by rw [Q3.out], ?_⟩, ?_⟩
        · rw [← Q3.out]; exact hr2.box cR3 _
        · exact (Below.chain (HBW.out.setCell (p := ⟨g, i, none⟩) (by simp; omega) _) hb2).setCell (p := ⟨w.heap.size + 1 + 1, 0, none⟩) (by simp; omega) _
theorem add_any (x y : Nat) (vx vy : Value) (w : World) (hx : NumAt w vx x) (hy : NumAt w vy y) (h1 : (limbs x).length ≤ 1000000000000) (h2 : (limbs y).length ≤ 1000000000000) :
    Calls Tryz.prog 60 #[vx, vy] w (RetN (x + y) w) := by
  by_cases h : (limbs x).length < (limbs y).length
  · rw [Nat.add_comm]; exact add_loop y x vy vx w _ hy hx h2 (.inr ⟨rfl, h⟩)
  · exact add_loop x y vx vy w _ hx hy h1 (.inl ⟨rfl, h⟩)
structure RBox (w W : World) (B : Nat) : Prop where
  lt : B < W.heap.size
  r0 : W.cell? ⟨B, 0, none⟩ = some (.bool false)
  r1 : W.cell? ⟨B, 1, none⟩ = some (.slice none 0 0)
  f0 : W.frozen? ⟨B, 0, none⟩ = false
  f1 : W.frozen? ⟨B, 1, none⟩ = false
  below : Below w.heap.size w W
theorem RBox.mono {w W W' : World} {B : Nat} (h : RBox w W B) (k : Below W.heap.size W W') : RBox w W' B := by
  have hl := h.lt
  exact ⟨Nat.lt_of_lt_of_le hl k.size, (k.cell (p := ⟨B, 0, none⟩) hl).trans h.r0, (k.cell (p := ⟨B, 1, none⟩) hl).trans h.r1,
    (k.frozen (p := ⟨B, 0, none⟩) hl).trans h.f0, (k.frozen (p := ⟨B, 1, none⟩) hl).trans h.f1, Below.chain h.below k⟩
theorem rbox_new (w : World) (v1 v2 : Value) (t1 t2 : TypeId) : RBox w (((w.alloc (Obj.cells #[v1] t1)).alloc (Obj.cells #[v2] t2)).alloc (Obj.cells #[Value.bool false, Value.slice none 0 0] 73)) (w.heap.size + 1 + 1) :=
  ⟨by simp, by go_cell, by go_cell, by go_cell, by go_cell, by go_grown⟩
def sgn (z : Int) : Bool := decide (z < 0)
def lenZ (z : Int) : Nat := (limbs z.natAbs).length
theorem IntAt.open {w : World} {v : Value} {z : Int} (h : IntAt w v z) : ∃ ao c, v = .agg #[.bool (sgn z), .slice ao (lenZ z) c] ∧ RowAt w ao c (limbs z.natAbs) := h
theorem IntAt.stored {w V : World} {B : Nat} {z : Int} {ao : Option Addr} {c : Nat} (hB : w.heap.size ≤ B) (R : RBox w V B) (hr : RowAt V ao c (limbs z.natAbs)) :
    IntAt ((V.setCell ⟨B, 0, none⟩ (.bool (sgn z))).setCell ⟨B, 1, none⟩ (.slice ao (lenZ z) c)) (.agg #[.bool (sgn z), .slice ao (lenZ z) c]) z ∧ Stored w V B (sgn z) ao (lenZ z) c :=
  have S := Go.Proofs.YtmnbjkbkjmgmkaaGreatDoor.stored hB R.r0 R.r1 R.below (sgn z) ao (lenZ z) c
  ⟨⟨ao, c, rfl, S.row _ _ _ hr⟩, S⟩
set_option maxHeartbeats 1000000 in
theorem both_any (x y : Nat) (vx vy : Value) (w : World) (hx : NumAt w vx x) (hy : NumAt w vy y) (hlx : (limbs x).length ≤ 1000000000000) (hly : (limbs y).length ≤ 1000000000000) :
    Calls Tryz.prog 58 #[vx, vy] w fun e w' => ∃ v', e = .returned v' ∧ IntAt w' v' ((x + y : Nat) : Int) ∧ Below w.heap.size w w' := by
  have C : ∀ W : World, Below w.heap.size w W → Calls Tryz.prog 60 #[vx, vy] W (RetN (x + y) W) := fun W hW => add_any x y vx vy W (hx.mono hW) (hy.mono hW) hlx hly
  have P : ∀ (W : World) (v : Value), NumAt W v (x + y) → Calls Tryz.prog 59 #[v] W fun e w' => ∃ v', e = .returned v' ∧ IntAt w' v' ((x + y : Nat) : Int) ∧ Below W.heap.size W w' := fun W v h => plus_any _ v W h
  generalize ((x + y : Nat) : Int) = z at *
  generalize x + y = s at *
  have HC := Lib.hid C; have HP := Lib.hid P
  obtain ⟨ao, c, rfl, -⟩ := hx
  obtain ⟨ap, d, rfl, -⟩ := hy
  clear C P hlx hly
  generalize (limbs x).length = n at *
  generalize (limbs y).length = m at *
  have R0 := rbox_new w (Value.slice ao n c) (Value.slice ap m d) 71 71
  go_enter Tryz.func58, Tryz.ntmps58
  go_wp2_with (go_at_call 60; refine (HC.out _ R0.below).mono ?_; rintro e w1 ⟨v1, rfl, hv1, hb1⟩; refine Hid.out ?_)
  have R1 := R0.mono hb1
  refine Lib.hid ?_
  go_wp2_with (go_at_call 59; refine (HP.out _ _ hv1).mono ?_; rintro e w2 ⟨v2, rfl, hv2, hb2⟩; refine Hid.out ?_)
  have R2 := R1.mono hb2
  obtain ⟨a2, c2, rfl, hr2⟩ := hv2.open
  clear R0 R1 hb1 hb2 hv1 hv2
  have k1 := R2.r0; have k2 := R2.r1; have k3 := R2.f0; have k4 := R2.f1
  obtain ⟨hI, hS⟩ := IntAt.stored (w := w) (by omega : w.heap.size ≤ w.heap.size + 1 + 1) R2 hr2
  have q0 := hS.q0; have q1 := hS.q1; have hbF := hS.below
  have HI := Lib.hid hI
  clear hI hS hr2
  refine Lib.hid ?_
  go_wp2
  refine bodyPost_ret (v := .agg #[.bool (sgn z), .slice a2 (lenZ z) c2]) (by simp [results, Tryz.results58, go_sem, q0, q1]) rfl ?_
  exact ⟨_, rfl, HI.out, hbF⟩
set_option maxHeartbeats 1000000 in
theorem neither_any (x y : Nat) (vx vy : Value) (w : World) (hx : NumAt w vx x) (hy : NumAt w vy y) (hlx : (limbs x).length ≤ 1000000000000) (hly : (limbs y).length ≤ 1000000000000) :
    Calls Tryz.prog 61 #[vx, vy] w fun e w' => ∃ v', e = .returned v' ∧ IntAt w' v' (-((x + y : Nat) : Int)) ∧ Below w.heap.size w w' := by
  have C : ∀ W : World, Below w.heap.size w W → Calls Tryz.prog 60 #[vx, vy] W (RetN (x + y) W) := fun W hW => add_any x y vx vy W (hx.mono hW) (hy.mono hW) hlx hly
  have P : ∀ (W : World) (v : Value), NumAt W v (x + y) → Calls Tryz.prog 62 #[v] W fun e w' => ∃ v', e = .returned v' ∧ IntAt w' v' (-((x + y : Nat) : Int)) ∧ Below W.heap.size W w' := fun W v h => minus_any _ v W h
  generalize (-((x + y : Nat) : Int)) = z at *
  generalize x + y = s at *
  have HC := Lib.hid C; have HP := Lib.hid P
  obtain ⟨ao, c, rfl, -⟩ := hx
  obtain ⟨ap, d, rfl, -⟩ := hy
  clear C P hlx hly
  generalize (limbs x).length = n at *
  generalize (limbs y).length = m at *
  have R0 := rbox_new w (Value.slice ao n c) (Value.slice ap m d) 71 71
  go_enter Tryz.func61, Tryz.ntmps61
  go_wp2_with (go_at_call 60; refine (HC.out _ R0.below).mono ?_; rintro e w1 ⟨v1, rfl, hv1, hb1⟩; refine Hid.out ?_)
  have R1 := R0.mono hb1
  refine Lib.hid ?_
  go_wp2_with (go_at_call 62; refine (HP.out _ _ hv1).mono ?_; rintro e w2 ⟨v2, rfl, hv2, hb2⟩; refine Hid.out ?_)
  have R2 := R1.mono hb2
  obtain ⟨a2, c2, rfl, hr2⟩ := hv2.open
  clear R0 R1 hb1 hb2 hv1 hv2
  have k1 := R2.r0; have k2 := R2.r1; have k3 := R2.f0; have k4 := R2.f1
  obtain ⟨hI, hS⟩ := IntAt.stored (w := w) (by omega : w.heap.size ≤ w.heap.size + 1 + 1) R2 hr2
  have q0 := hS.q0; have q1 := hS.q1; have hbF := hS.below
  have HI := Lib.hid hI
  clear hI hS hr2
  refine Lib.hid ?_
  go_wp2
  refine bodyPost_ret (v := .agg #[.bool (sgn z), .slice a2 (lenZ z) c2]) (by simp [results, Tryz.results61, go_sem, q0, q1]) rfl ?_
  exact ⟨_, rfl, HI.out, hbF⟩
set_option maxHeartbeats 2000000 in
theorem excess_any (x y : Nat) (vx vy : Value) (w : World) (hx : NumAt w vx x) (hy : NumAt w vy y) (hlx : (limbs x).length ≤ 1000000000000) (hly : (limbs y).length ≤ 1000000000000) :
    Calls Tryz.prog 64 #[vx, vy] w fun e w' => ∃ v', e = .returned v' ∧ IntAt w' v' ((x : Int) - (y : Int)) ∧ Below w.heap.size w w' := by
  have C : ∀ W : World, Below w.heap.size w W → Calls Tryz.prog 74 #[vx, vy] W (RetN (if x < y then y - x else x - y) W) := fun W hW => dist_any x y vx vy W (hx.mono hW) (hy.mono hW) hlx hly
  have D : ∀ W : World, Below w.heap.size w W → Calls Tryz.prog 91 #[vx, vy] W fun e w' => e = .returned (.int .i64 (cmpN x y)) ∧ Below W.heap.size W w' := fun W hW => compare_any x y vx vy W (hx.mono hW) (hy.mono hW)
  obtain ⟨ao, c, rfl, -⟩ := hx
  obtain ⟨ap, d, rfl, -⟩ := hy
  clear hlx hly
  by_cases hlt : x < y
  · have hc : cmpN x y = -1 := by unfold cmpN; rw [if_pos hlt]
    rw [if_pos hlt] at C
    rw [hc] at D
    have P : ∀ (W : World) (v : Value), NumAt W v (y - x) → Calls Tryz.prog 62 #[v] W fun e w' => ∃ v', e = .returned v' ∧ IntAt w' v' ((x : Int) - (y : Int)) ∧ Below W.heap.size W w' := fun W v h => by
      have := minus_any _ v W h
      rwa [show (-((y - x : Nat) : Int)) = (x : Int) - (y : Int) by omega] at this
    generalize (x : Int) - (y : Int) = z at *
    generalize (y - x) = s at *
    have HC := Lib.hid C; have HP := Lib.hid P; have HD := Lib.hid D
    clear C P D hlt
    generalize (limbs x).length = n at *
    generalize (limbs y).length = m at *
    have A0 := three_new w (Value.slice ao n c) (Value.slice ap m d) (Value.bool false) 71 71 73
    have R0 := rbox_new w (Value.slice ao n c) (Value.slice ap m d) 71 71
    have j1 : (((w.alloc (Obj.cells #[Value.slice ao n c] 71)).alloc (Obj.cells #[Value.slice ap m d] 71)).alloc (Obj.cells #[Value.bool false, Value.slice none 0 0] 73)).cell? ⟨w.heap.size, 0, none⟩ = some (Value.slice ao n c) := by go_cell
    have j2 : (((w.alloc (Obj.cells #[Value.slice ao n c] 71)).alloc (Obj.cells #[Value.slice ap m d] 71)).alloc (Obj.cells #[Value.bool false, Value.slice none 0 0] 73)).cell? ⟨w.heap.size + 1, 0, none⟩ = some (Value.slice ap m d) := by go_cell
    have J1 := Lib.hid j1; have J2 := Lib.hid j2
    clear A0 j1 j2
    go_enter Tryz.func64, Tryz.ntmps64
    go_wp2_with (go_at_call 91; refine (HD.out _ R0.below).mono ?_; rintro e w1 ⟨rfl, hb1⟩; refine Hid.out ?_)
    have R1 := R0.mono hb1
    have l1 := (hb1.cell (p := ⟨w.heap.size, 0, none⟩) (by simp <;> omega)).trans J1.out
    have l2 := (hb1.cell (p := ⟨w.heap.size + 1, 0, none⟩) (by simp <;> omega)).trans J2.out
    clear R0 J1 J2 hb1
    refine Lib.hid ?_
    go_wp2_with (go_at_call 74; refine (HC.out _ R1.below).mono ?_; rintro e w3 ⟨v3, rfl, hv3, hb3⟩; refine Hid.out ?_)
    have R3 := R1.mono hb3
    clear l1 l2 R1 hb3
    refine Lib.hid ?_
    go_wp2_with (go_at_call 62; refine (HP.out _ _ hv3).mono ?_; rintro e w2 ⟨v2, rfl, hv2, hb2⟩; refine Hid.out ?_)
    have R2 := R3.mono hb2
    obtain ⟨a2, c2, rfl, hr2⟩ := hv2.open
    clear R3 hb2 hv3 hv2
    have k1 := R2.r0; have k2 := R2.r1; have k3 := R2.f0; have k4 := R2.f1
    obtain ⟨hI, hS⟩ := IntAt.stored (w := w) (by omega : w.heap.size ≤ w.heap.size + 1 + 1) R2 hr2
    have q0 := hS.q0; have q1 := hS.q1; have hbF := hS.below
    have HI := Lib.hid hI
    clear hI hS hr2
    refine Lib.hid ?_
    go_wp2
    refine bodyPost_ret (v := .agg #[.bool (sgn z), .slice a2 (lenZ z) c2]) (by simp [results, Tryz.results64, go_sem, q0, q1]) rfl ?_
    exact ⟨_, rfl, HI.out, hbF⟩
  · have hc : ∃ r : Int, cmpN x y = r ∧ decide (r < 0) = false := ⟨_, rfl, by unfold cmpN; rw [if_neg hlt]; split <;> rfl⟩
    obtain ⟨r, hr, hr0⟩ := hc
    rw [if_neg hlt] at C
    rw [hr] at D
    clear hr
    have P : ∀ (W : World) (v : Value), NumAt W v (x - y) → Calls Tryz.prog 59 #[v] W fun e w' => ∃ v', e = .returned v' ∧ IntAt w' v' ((x : Int) - (y : Int)) ∧ Below W.heap.size W w' := fun W v h => by
      have := plus_any _ v W h
      rwa [show ((x - y : Nat) : Int) = (x : Int) - (y : Int) by omega] at this
    generalize (x : Int) - (y : Int) = z at *
    generalize (x - y) = s at *
    have HC := Lib.hid C; have HP := Lib.hid P; have HD := Lib.hid D
    clear C P D hlt
    generalize (limbs x).length = n at *
    generalize (limbs y).length = m at *
    have A0 := three_new w (Value.slice ao n c) (Value.slice ap m d) (Value.bool false) 71 71 73
    have R0 := rbox_new w (Value.slice ao n c) (Value.slice ap m d) 71 71
    have j1 : (((w.alloc (Obj.cells #[Value.slice ao n c] 71)).alloc (Obj.cells #[Value.slice ap m d] 71)).alloc (Obj.cells #[Value.bool false, Value.slice none 0 0] 73)).cell? ⟨w.heap.size, 0, none⟩ = some (Value.slice ao n c) := by go_cell
    have j2 : (((w.alloc (Obj.cells #[Value.slice ao n c] 71)).alloc (Obj.cells #[Value.slice ap m d] 71)).alloc (Obj.cells #[Value.bool false, Value.slice none 0 0] 73)).cell? ⟨w.heap.size + 1, 0, none⟩ = some (Value.slice ap m d) := by go_cell
    have J1 := Lib.hid j1; have J2 := Lib.hid j2
    clear A0 j1 j2
    go_enter Tryz.func64, Tryz.ntmps64
    go_wp2_with (go_at_call 91; refine (HD.out _ R0.below).mono ?_; rintro e w1 ⟨rfl, hb1⟩; refine Hid.out ?_)
    have R1 := R0.mono hb1
    have l1 := (hb1.cell (p := ⟨w.heap.size, 0, none⟩) (by simp <;> omega)).trans J1.out
    have l2 := (hb1.cell (p := ⟨w.heap.size + 1, 0, none⟩) (by simp <;> omega)).trans J2.out
    clear R0 J1 J2 hb1
    refine Lib.hid ?_
    go_wp2_with (go_at_call 74; refine (HC.out _ R1.below).mono ?_; rintro e w3 ⟨v3, rfl, hv3, hb3⟩; refine Hid.out ?_)
    have R3 := R1.mono hb3
    clear l1 l2 R1 hb3
    refine Lib.hid ?_
    go_wp2_with (go_at_call 59; refine (HP.out _ _ hv3).mono ?_; rintro e w2 ⟨v2, rfl, hv2, hb2⟩; refine Hid.out ?_)
    have R2 := R3.mono hb2
    obtain ⟨a2, c2, rfl, hr2⟩ := hv2.open
    clear R3 hb2 hv3 hv2
    have k1 := R2.r0; have k2 := R2.r1; have k3 := R2.f0; have k4 := R2.f1
    obtain ⟨hI, hS⟩ := IntAt.stored (w := w) (by omega : w.heap.size ≤ w.heap.size + 1 + 1) R2 hr2
    have q0 := hS.q0; have q1 := hS.q1; have hbF := hS.below
    have HI := Lib.hid hI
    clear hI hS hr2
    refine Lib.hid ?_
    go_wp2
    refine bodyPost_ret (v := .agg #[.bool (sgn z), .slice a2 (lenZ z) c2]) (by simp [results, Tryz.results64, go_sem, q0, q1]) rfl ?_
    exact ⟨_, rfl, HI.out, hbF⟩
set_option maxHeartbeats 1000000 in
theorem reversed_any (x y : Nat) (vx vy : Value) (w : World) (hx : NumAt w vx x) (hy : NumAt w vy y) (hlx : (limbs x).length ≤ 1000000000000) (hly : (limbs y).length ≤ 1000000000000) :
    Calls Tryz.prog 63 #[vx, vy] w fun e w' => ∃ v', e = .returned v' ∧ IntAt w' v' ((y : Int) - (x : Int)) ∧ Below w.heap.size w w' := by
  have C : ∀ W : World, Below w.heap.size w W → Calls Tryz.prog 64 #[vy, vx] W fun e w' => ∃ v', e = .returned v' ∧ IntAt w' v' ((y : Int) - (x : Int)) ∧ Below W.heap.size W w' := fun W hW => excess_any y x vy vx W (hy.mono hW) (hx.mono hW) hly hlx
  generalize (y : Int) - (x : Int) = z at *
  have HC := Lib.hid C
  obtain ⟨ao, c, rfl, -⟩ := hx
  obtain ⟨ap, d, rfl, -⟩ := hy
  clear C hlx hly
  generalize (limbs x).length = n at *
  generalize (limbs y).length = m at *
  have R0 := rbox_new w (Value.slice ao n c) (Value.slice ap m d) 71 71
  go_enter Tryz.func63, Tryz.ntmps63
  go_wp2_with (go_at_call 64; refine (HC.out _ R0.below).mono ?_; rintro e w2 ⟨v2, rfl, hv2, hb2⟩; refine Hid.out ?_)
  have R2 := R0.mono hb2
  obtain ⟨a2, c2, rfl, hr2⟩ := hv2.open
  clear R0 hb2 hv2
  have k1 := R2.r0; have k2 := R2.r1; have k3 := R2.f0; have k4 := R2.f1
  obtain ⟨hI, hS⟩ := IntAt.stored (w := w) (by omega : w.heap.size ≤ w.heap.size + 1 + 1) R2 hr2
  have q0 := hS.q0; have q1 := hS.q1; have hbF := hS.below
  have HI := Lib.hid hI
  clear hI hS hr2
  refine Lib.hid ?_
  go_wp2
  refine bodyPost_ret (v := .agg #[.bool (sgn z), .slice a2 (lenZ z) c2]) (by simp [results, Tryz.results63, go_sem, q0, q1]) rfl ?_
  exact ⟨_, rfl, HI.out, hbF⟩
end Go.Proofs.YtmnbjkbkjmgmkaaGreatDoor
