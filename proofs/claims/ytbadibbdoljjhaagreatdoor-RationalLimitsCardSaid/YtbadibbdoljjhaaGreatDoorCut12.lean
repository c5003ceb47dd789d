import Derived.Deep.RegionHeld3
import Derived.Test.YtbadibbdoljjhaaGreatDoorCut4
import Derived.Test.YtbadibbdoljjhaaGreatDoorCut10
import Derived.Test.YtbadibbdoljjhaaGreatDoorOwnQuoB
import Derived.Test.YtbadibbdoljjhaaGreatDoorCut11

set_option linter.unusedVariables false
/-
  bigint.compute of Quo, for long integers. (made by tools/comp.py)
-/
namespace Go.Proofs.YtbadibbdoljjhaaGreatDoor
open Go Go.Proofs Go.RowKit Go.Sort

theorem keepSQuo {W w1 w2 : World} {a : Addr} {v : Value} (hlt : a.block < W.heap.size) (h : w1.cell? a = some v ∧ Below W.heap.size W w1) (hb : Below w1.heap.size w1 w2) : w2.cell? a = some v ∧ Below W.heap.size W w2 :=
  ⟨(hb.cell (Nat.lt_of_lt_of_le hlt h.2.size)).trans h.1, Below.chain h.2 hb⟩

set_option maxHeartbeats 4000000 in
theorem compQuo_long (s t : ByteArray) (x y r : Int) (w : World) (hs : Str s x) (ht : Str t y) (hxy : ¬ (x.natAbs < 1000000000 ∧ y.natAbs < 1000000000)) (hr : (limbs r.natAbs).length ≤ 1000000000000)
    (HL : ∀ (W : World) (v1 v2 : Value), IntAt W v1 x → IntAt W v2 y → Calls Tryz.prog 123 #[v1, v2] W fun e w' => ∃ v, e = .returned v ∧ IntAt w' v r ∧ Below W.heap.size W w')
    (htab : Lib.TabIs Tryz.prog w "internal/strconv.uint64pow10" .u64 Lib.pow10Tab) :
    Calls Tryz.prog 81 #[opV 122 123, .string s, .string t] w fun e w' =>
      e = .returned (if 4096 < (Lib.decDigits r.natAbs).length then .tuple #[.string ⟨#[]⟩, .int .i64 10] else .tuple #[.string (str (Lib.itoa r)), .int .i64 0]) ∧ Below w.heap.size w w' := by
  have hsz := hs.size
  have htz := ht.size
  have CB := fun W => checkBoth_any s t W (by omega) (by omega)
  have hb : errBoth (bytes s) (bytes t) = 0 := by unfold errBoth; rw [if_pos hs.err, ht.err]
  rw [hb] at CB
  obtain ⟨bs, bt, hbs, hbt, hbb⟩ : ∃ bs bt : Bool, decide ((digL (bytes s)).length ≤ 9) = bs ∧ decide ((digL (bytes t)).length ≤ 9) = bt ∧ ¬ (bs = true ∧ bt = true) := by
    refine ⟨_, _, rfl, rfl, fun ⟨h1, h2⟩ => hxy ⟨?_, ?_⟩⟩
    · exact Decidable.byContradiction fun h => by rw [hs.notShort h] at h1; cases h1
    · exact Decidable.byContradiction fun h => by rw [ht.notShort h] at h2; cases h2
  have IS := fun W => isShort_any s W (by omega)
  have IT := fun W => isShort_any t W (by omega)
  rw [hbs] at IS
  rw [hbt] at IT
  have PS := fun W => parseZ_any s x W hs.text (by omega)
  have PT := fun W => parseZ_any t y W ht.text (by omega)
  have TX : ∀ (W : World) (v : Value), Below w.heap.size w W → IntAt W v r → Calls Tryz.prog 93 #[v] W fun e w' => e = .returned (.string (str (Lib.itoa r))) ∧ Below W.heap.size W w' := fun W v hW hv =>
    textZ_any r v W hv hr ((Lib.tabBelow_of_tabIs htab).on hW).here
  have LG := fun W => isLong_any (str (Lib.itoa r)) W (by
    rw [str_size]
    have h1 := decDigits_limbs r.natAbs
    by_cases hz : r < 0
    · rw [itoa_neg hz]; simp; omega
    · rw [itoa_nonneg hz]; omega)
  rw [bytes_str, digL_itoa] at LG
  have HCB := Lib.hid CB; have HIS := Lib.hid IS; have HIT := Lib.hid IT; have HPS := Lib.hid PS; have HPT := Lib.hid PT; have HTX := Lib.hid TX; have HHL := Lib.hid HL; have HLG := Lib.hid LG
  clear CB IS IT PS PT TX HL LG hb htab hs ht hxy hr hbs hbt
  generalize str (Lib.itoa r) = rs at *
  generalize hlong : decide (4096 < (Lib.decDigits r.natAbs).length) = lg at *
  have hres : (if 4096 < (Lib.decDigits r.natAbs).length then Value.tuple #[.string ⟨#[]⟩, .int .i64 10] else .tuple #[.string rs, .int .i64 0]) = if lg = true then .tuple #[.string ⟨#[]⟩, .int .i64 10] else .tuple #[.string rs, .int .i64 0] := by
    rw [← hlong]; simp
  rw [hres]
  clear hres hlong
  unfold opV
  have B0 : Below w.heap.size w (w.alloc (Obj.cells #[.func (.func 122) #[] #[], .func (.func 123) #[] #[]] 87)) := (Below.refl _ _).alloc (Nat.le_refl _) _
  have c0 : (w.alloc (Obj.cells #[.func (.func 122) #[] #[], .func (.func 123) #[] #[]] 87)).cell? ⟨w.heap.size, 1, none⟩ = some (.func (.func 123) #[] #[]) := by go_cell
  have s0 : w.heap.size < (w.alloc (Obj.cells #[.func (.func 122) #[] #[], .func (.func 123) #[] #[]] 87)).heap.size := by simp
  have key : ∀ W : World, Below w.heap.size w W → W.cell? ⟨w.heap.size, 1, none⟩ = some (.func (.func 123) #[] #[]) → w.heap.size < W.heap.size → True := fun _ _ _ _ => trivial
  clear key
  cases bs
  · go_enter Tryz.func81, Tryz.ntmps81
    go_wp2_with (go_at_call 90; refine (HCB.out _).mono ?_; rintro e w1 ⟨rfl, rfl⟩; refine Hid.out ?_)
    refine Lib.hid ?_
    go_wp2_with (go_at_call 133; refine (HIS.out _).mono ?_; rintro e w1 ⟨rfl, rfl⟩; refine Hid.out ?_)
    refine Lib.hid ?_
    go_wp2_with fail
    generalize w.alloc (Obj.cells #[.func (.func 122) #[] #[], .func (.func 123) #[] #[]] 87) = W at *
    have HB := Lib.hid B0; clear B0
    go_region_held3 (fun w' => w'.cell? ⟨w.heap.size, 1, none⟩ = some (.func (.func 123) #[] #[]) ∧ Below W.heap.size W w') (first | exact keepSQuo (a := ⟨w.heap.size, 1, none⟩) s0 ⟨c0, Below.refl _ _⟩ ((Below.refl _ _).drew) | (refine keepSQuo (a := ⟨w.heap.size, 1, none⟩) s0 ?_ (by assumption); assumption)) (first
      | (go_at_call_of 92 s; refine (HPS.out _).mono ?_; rintro e w4 ⟨v4, rfl, hv4, hb4⟩)
      | (go_at_call_of 92 t; refine (HPT.out _).mono ?_; rintro e w5 ⟨v5, rfl, hv5, hb5⟩)
      | (go_at_call 123; refine (HHL.out _ _ _ (hv4.mono hb5) hv5).mono ?_; rintro e w6 ⟨v6, rfl, hv6, hb6⟩)
      | (go_at_call 93; refine (HTX.out _ _ (Below.chain HB.out (Below.chain (Below.chain ((Below.refl _ _).drew) hb4) (Below.chain hb5 hb6))) hv6).mono ?_; rintro e w7 ⟨rfl, hb7⟩))
    all_goals
      have hbF := Below.chain HB.out (Below.chain (Below.chain ((Below.refl W.heap.size W).drew) hb4) (Below.chain hb5 (Below.chain hb6 hb7)))
      clear hb4 hb5 hb6 hb7 hv4 hv5 hv6 c0 s0
      go_wp2_with (go_at_call 132; refine (HLG.out _).mono ?_; rintro e w8 ⟨rfl, rfl⟩; refine Hid.out ?_)
      refine Lib.hid ?_
      cases lg
      · go_wp2
        refine bodyPost_ret (by simp [results, Tryz.results81, go_sem]; rfl) rfl ?_
        exact ⟨rfl, hbF⟩
      · go_wp2
        refine bodyPost_ret (by simp [results, Tryz.results81, go_sem]; rfl) rfl ?_
        exact ⟨rfl, hbF⟩
  · have hbt : bt = false := by cases bt <;> simp_all
    subst hbt
    clear hbb
    go_enter Tryz.func81, Tryz.ntmps81
    go_wp2_with (go_at_call 90; refine (HCB.out _).mono ?_; rintro e w1 ⟨rfl, rfl⟩; refine Hid.out ?_)
    refine Lib.hid ?_
    go_wp2_with (go_at_call 133; refine (HIS.out _).mono ?_; rintro e w1 ⟨rfl, rfl⟩; refine Hid.out ?_)
    refine Lib.hid ?_
    go_wp2_with (go_at_call 133; refine (HIT.out _).mono ?_; rintro e w1 ⟨rfl, rfl⟩; refine Hid.out ?_)
    refine Lib.hid ?_
    go_wp2_with fail
    generalize w.alloc (Obj.cells #[.func (.func 122) #[] #[], .func (.func 123) #[] #[]] 87) = W at *
    have HB := Lib.hid B0; clear B0
    go_region_held3 (fun w' => w'.cell? ⟨w.heap.size, 1, none⟩ = some (.func (.func 123) #[] #[]) ∧ Below W.heap.size W w') (first | exact keepSQuo (a := ⟨w.heap.size, 1, none⟩) s0 ⟨c0, Below.refl _ _⟩ ((Below.refl _ _).drew) | (refine keepSQuo (a := ⟨w.heap.size, 1, none⟩) s0 ?_ (by assumption); assumption)) (first
      | (go_at_call_of 92 s; refine (HPS.out _).mono ?_; rintro e w4 ⟨v4, rfl, hv4, hb4⟩)
      | (go_at_call_of 92 t; refine (HPT.out _).mono ?_; rintro e w5 ⟨v5, rfl, hv5, hb5⟩)
      | (go_at_call 123; refine (HHL.out _ _ _ (hv4.mono hb5) hv5).mono ?_; rintro e w6 ⟨v6, rfl, hv6, hb6⟩)
      | (go_at_call 93; refine (HTX.out _ _ (Below.chain HB.out (Below.chain (Below.chain ((Below.refl _ _).drew) hb4) (Below.chain hb5 hb6))) hv6).mono ?_; rintro e w7 ⟨rfl, hb7⟩))
    all_goals
      have hbF := Below.chain HB.out (Below.chain (Below.chain ((Below.refl W.heap.size W).drew) hb4) (Below.chain hb5 (Below.chain hb6 hb7)))
      clear hb4 hb5 hb6 hb7 hv4 hv5 hv6 c0 s0
      go_wp2_with (go_at_call 132; refine (HLG.out _).mono ?_; rintro e w8 ⟨rfl, rfl⟩; refine Hid.out ?_)
      refine Lib.hid ?_
      cases lg
      · go_wp2
        refine bodyPost_ret (by simp [results, Tryz.results81, go_sem]; rfl) rfl ?_
        exact ⟨rfl, hbF⟩
      · go_wp2
        refine bodyPost_ret (by simp [results, Tryz.results81, go_sem]; rfl) rfl ?_
        exact ⟨rfl, hbF⟩
end Go.Proofs.YtbadibbdoljjhaaGreatDoor

/-
  bigint.compute of Rem, for short integers. (made by tools/comp.py)
-/
namespace Go.Proofs.YtbadibbdoljjhaaGreatDoor
open Go Go.Proofs Go.RowKit Go.Sort

set_option maxHeartbeats 4000000 in
theorem compRem_short (s t : ByteArray) (x y r : Int) (w : World) (hs : Str s x) (ht : Str t y) (hx : x.natAbs < 1000000000) (hy : y.natAbs < 1000000000) (hr0 : -9223372036854775808 ≤ r) (hr1 : r ≤ 9223372036854775807)
    (HS : ∀ W : World, Calls Tryz.prog 124 #[.int .i64 x, .int .i64 y] W fun e w' => e = .returned (.int .i64 r) ∧ Below W.heap.size W w')
    (htab : Lib.TabIs Tryz.prog w "internal/strconv.uint64pow10" .u64 Lib.pow10Tab) :
    Calls Tryz.prog 81 #[opV 124 125, .string s, .string t] w fun e w' => e = .returned (.tuple #[.string (str (Lib.itoa r)), .int .i64 0]) ∧ Below w.heap.size w w' := by
  have hsz := hs.size
  have htz := ht.size
  have CB := fun W => checkBoth_any s t W (by omega) (by omega)
  have hb : errBoth (bytes s) (bytes t) = 0 := by unfold errBoth; rw [if_pos hs.err, ht.err]
  rw [hb] at CB
  have IS := fun W => isShort_any s W (by omega)
  have IT := fun W => isShort_any t W (by omega)
  rw [hs.short hx] at IS
  rw [ht.short hy] at IT
  have WS := fun W => wordZ_any s x W hs.text (by omega) (by omega)
  have WT := fun W => wordZ_any t y W ht.text (by omega) (by omega)
  have FI : ∀ W : World, Below w.heap.size w W → Calls Tryz.prog 134 #[.int .i64 r, .int .i64 10] W fun e w' => e = .returned (.string (str (Lib.itoa r))) ∧ Below W.heap.size W w' := fun W hW =>
    (Tryz.strconv_FormatInt_10 r hr0 hr1 W ((Lib.tabBelow_of_tabIs htab).on hW).here).mono fun e w' ⟨h1, k, os, h2⟩ => ⟨h1, by rw [h2]; exact Lib.below_grow _ W (Nat.le_refl _) k os⟩
  have HCB := Lib.hid CB; have HIS := Lib.hid IS; have HIT := Lib.hid IT; have HWS := Lib.hid WS; have HWT := Lib.hid WT; have HFI := Lib.hid FI; have HHS := Lib.hid HS
  clear CB IS IT WS WT FI HS hb htab hs ht hx hy hr0 hr1
  generalize str (Lib.itoa r) = rs at *
  unfold opV
  have B0 : Below w.heap.size w (w.alloc (Obj.cells #[.func (.func 124) #[] #[], .func (.func 125) #[] #[]] 87)) := (Below.refl _ _).alloc (Nat.le_refl _) _
  have c0 : (w.alloc (Obj.cells #[.func (.func 124) #[] #[], .func (.func 125) #[] #[]] 87)).cell? ⟨w.heap.size, 0, none⟩ = some (.func (.func 124) #[] #[]) := by go_cell
  go_enter Tryz.func81, Tryz.ntmps81
  go_wp2_with (go_at_call 90; refine (HCB.out _).mono ?_; rintro e w1 ⟨rfl, rfl⟩; refine Hid.out ?_)
  refine Lib.hid ?_
  go_wp2_with (go_at_call 133; refine (HIS.out _).mono ?_; rintro e w1 ⟨rfl, rfl⟩; refine Hid.out ?_)
  refine Lib.hid ?_
  go_wp2_with (go_at_call 133; refine (HIT.out _).mono ?_; rintro e w1 ⟨rfl, rfl⟩; refine Hid.out ?_)
  refine Lib.hid ?_
  go_wp2_with fail
  generalize w.alloc (Obj.cells #[.func (.func 124) #[] #[], .func (.func 125) #[] #[]] 87) = W at *
  have HB := Lib.hid B0; clear B0
  have hcell : ∀ d os, (grow (redrawn W d) os).cell? ⟨w.heap.size, 0, none⟩ = some (.func (.func 124) #[] #[]) := fun d os => cell_regrown c0 d os
  have cS : ∀ d os, Calls Tryz.prog 135 #[.string s] (grow (redrawn W d) os) fun e w'' => e = .returned (.int .i64 x) ∧ ∃ p : Regrown, w'' = grow (redrawn W p.d) p.os := fun d os => Calls.regrown_of (HWS.out _)
  have cT : ∀ d os, Calls Tryz.prog 135 #[.string t] (grow (redrawn W d) os) fun e w'' => e = .returned (.int .i64 y) ∧ ∃ p : Regrown, w'' = grow (redrawn W p.d) p.os := fun d os => Calls.regrown_of (HWT.out _)
  have cF : ∀ d os, Calls Tryz.prog 134 #[.int .i64 r, .int .i64 10] (grow (redrawn W d) os) fun e w'' => e = .returned (.string rs) ∧ ∃ p : Regrown, w'' = grow (redrawn W p.d) p.os := fun d os => Calls.regrown_of (HFI.out _ (Below.chain HB.out (below_regrown W d os)))
  have cH : ∀ d os, Calls Tryz.prog 124 #[.int .i64 x, .int .i64 y] (grow (redrawn W d) os) fun e w'' => e = .returned (.int .i64 r) ∧ ∃ p : Regrown, w'' = grow (redrawn W p.d) p.os := fun d os => Calls.regrown_of (HHS.out _)
  have KS := Lib.hid cS; have KT := Lib.hid cT; have KF := Lib.hid cF; have KH := Lib.hid cH
  clear cS cT cF cH
  refine wp_region_quiet_below (by kernel_rfl) (by kernel_rfl) ?_
  quiet_step (fail)
  quiet_step (fail)
  quiet_step (fail)
  quiet_step (exact KS.out _ _)
  quiet_step (fail)
  quiet_step (exact KT.out _ _)
  quiet_step (exact KH.out _ _)
  quiet_step (exact KF.out _ _)
  quiet_step (fail)
  quiet_step (fail)
  refine wpQuiet_nil ?_
  intro _ hw'
  obtain ⟨⟨dq, osq⟩, hw''⟩ := hw'
  subst hw''
  go_wp2
  refine bodyPost_ret (by simp [results, Tryz.results81, go_sem]; rfl) rfl ?_
  exact ⟨rfl, Below.chain HB.out (below_regrown W dq osq)⟩
end Go.Proofs.YtbadibbdoljjhaaGreatDoor

/-
  bigint.compute of Rem, for long integers. (made by tools/comp.py)
-/
namespace Go.Proofs.YtbadibbdoljjhaaGreatDoor
open Go Go.Proofs Go.RowKit Go.Sort

theorem keepSRem {W w1 w2 : World} {a : Addr} {v : Value} (hlt : a.block < W.heap.size) (h : w1.cell? a = some v ∧ Below W.heap.size W w1) (hb : Below w1.heap.size w1 w2) : w2.cell? a = some v ∧ Below W.heap.size W w2 :=
  ⟨(hb.cell (Nat.lt_of_lt_of_le hlt h.2.size)).trans h.1, Below.chain h.2 hb⟩

set_option maxHeartbeats 4000000 in
theorem compRem_long (s t : ByteArray) (x y r : Int) (w : World) (hs : Str s x) (ht : Str t y) (hxy : ¬ (x.natAbs < 1000000000 ∧ y.natAbs < 1000000000)) (hr : (limbs r.natAbs).length ≤ 1000000000000)
    (HL : ∀ (W : World) (v1 v2 : Value), IntAt W v1 x → IntAt W v2 y → Calls Tryz.prog 125 #[v1, v2] W fun e w' => ∃ v, e = .returned v ∧ IntAt w' v r ∧ Below W.heap.size W w')
    (htab : Lib.TabIs Tryz.prog w "internal/strconv.uint64pow10" .u64 Lib.pow10Tab) :
    Calls Tryz.prog 81 #[opV 124 125, .string s, .string t] w fun e w' =>
      e = .returned (if 4096 < (Lib.decDigits r.natAbs).length then .tuple #[.string ⟨#[]⟩, .int .i64 10] else .tuple #[.string (str (Lib.itoa r)), .int .i64 0]) ∧ Below w.heap.size w w' := by
  have hsz := hs.size
  have htz := ht.size
  have CB := fun W => checkBoth_any s t W (by omega) (by omega)
  have hb : errBoth (bytes s) (bytes t) = 0 := by unfold errBoth; rw [if_pos hs.err, ht.err]
  rw [hb] at CB
  obtain ⟨bs, bt, hbs, hbt, hbb⟩ : ∃ bs bt : Bool, decide ((digL (bytes s)).length ≤ 9) = bs ∧ decide ((digL (bytes t)).length ≤ 9) = bt ∧ ¬ (bs = true ∧ bt = true) := by
    refine ⟨_, _, rfl, rfl, fun ⟨h1, h2⟩ => hxy ⟨?_, ?_⟩⟩
    · exact Decidable.byContradiction fun h => by rw [hs.notShort h] at h1; cases h1
    · exact Decidable.byContradiction fun h => by rw [ht.notShort h] at h2; cases h2
  have IS := fun W => isShort_any s W (by omega)
  have IT := fun W => isShort_any t W (by omega)
  rw [hbs] at IS
  rw [hbt] at IT
  have PS := fun W => parseZ_any s x W hs.text (by omega)
  have PT := fun W => parseZ_any t y W ht.text (by omega)
  have TX : ∀ (W : World) (v : Value), Below w.heap.size w W → IntAt W v r → Calls Tryz.prog 93 #[v] W fun e w' => e = .returned (.string (str (Lib.itoa r))) ∧ Below W.heap.size W w' := fun W v hW hv =>
    textZ_any r v W hv hr ((Lib.tabBelow_of_tabIs htab).on hW).here
  have LG := fun W => isLong_any (str (Lib.itoa r)) W (by
    rw [str_size]
    have h1 := decDigits_limbs r.natAbs
    by_cases hz : r < 0
    · rw [itoa_neg hz]; simp; omega
    · rw [itoa_nonneg hz]; omega)
  rw [bytes_str, digL_itoa] at LG
  have HCB := Lib.hid CB; have HIS := Lib.hid IS; have HIT := Lib.hid IT; have HPS := Lib.hid PS; have HPT := Lib.hid PT; have HTX := Lib.hid TX; have HHL := Lib.hid HL; have HLG := Lib.hid LG
  clear CB IS IT PS PT TX HL LG hb htab hs ht hxy hr hbs hbt
  generalize str (Lib.itoa r) = rs at *
  generalize hlong : decide (4096 < (Lib.decDigits r.natAbs).length) = lg at *
  have hres : (if 4096 < (Lib.decDigits r.natAbs).length then Value.tuple #[.string ⟨#[]⟩, .int .i64 10] else .tuple #[.string rs, .int .i64 0]) = if lg = true then .tuple #[.string ⟨#[]⟩, .int .i64 10] else .tuple #[.string rs, .int .i64 0] := by
    rw [← hlong]; simp
  rw [hres]
  clear hres hlong
  unfold opV
  have B0 : Below w.heap.size w (w.alloc (Obj.cells #[.func (.func 124) #[] #[], .func (.func 125) #[] #[]] 87)) := (Below.refl _ _).alloc (Nat.le_refl _) _
  have c0 : (w.alloc (Obj.cells #[.func (.func 124) #[] #[], .func (.func 125) #[] #[]] 87)).cell? ⟨w.heap.size, 1, none⟩ = some (.func (.func 125) #[] #[]) := by go_cell
  have s0 : w.heap.size < (w.alloc (Obj.cells #[.func (.func 124) #[] #[], .func (.func 125) #[] #[]] 87)).heap.size := by simp
  have key : ∀ W : World, Below w.heap.size w W → W.cell? ⟨w.heap.size, 1, none⟩ = some (.func (.func 125) #[] #[]) → w.heap.size < W.heap.size → True := fun _ _ _ _ => trivial
  clear key
  cases bs
  · go_enter Tryz.func81, Tryz.ntmps81
    go_wp2_with (go_at_call 90; refine (HCB.out _).mono ?_; rintro e w1 ⟨rfl, rfl⟩; refine Hid.out ?_)
    refine Lib.hid ?_
    go_wp2_with (go_at_call 133; refine (HIS.out _).mono ?_; rintro e w1 ⟨rfl, rfl⟩; refine Hid.out ?_)
    refine Lib.hid ?_
    go_wp2_with fail
    generalize w.alloc (Obj.cells #[.func (.func 124) #[] #[], .func (.func 125) #[] #[]] 87) = W at *
    have HB := Lib.hid B0; clear B0
    go_region_held3 (fun w' => w'.cell? ⟨w.heap.size, 1, none⟩ = some (.func (.func 125) #[] #[]) ∧ Below W.heap.size W w') (first | exact keepSRem (a := ⟨w.heap.size, 1, none⟩) s0 ⟨c0, Below.refl _ _⟩ ((Below.refl _ _).drew) | (refine keepSRem (a := ⟨w.heap.size, 1, none⟩) s0 ?_ (by assumption); assumption)) (first
      | (go_at_call_of 92 s; refine (HPS.out _).mono ?_; rintro e w4 ⟨v4, rfl, hv4, hb4⟩)
      | (go_at_call_of 92 t; refine (HPT.out _).mono ?_; rintro e w5 ⟨v5, rfl, hv5, hb5⟩)
      | (go_at_call 125; refine (HHL.out _ _ _ (hv4.mono hb5) hv5).mono ?_; rintro e w6 ⟨v6, rfl, hv6, hb6⟩)
      | (go_at_call 93; refine (HTX.out _ _ (Below.chain HB.out (Below.chain (Below.chain ((Below.refl _ _).drew) hb4) (Below.chain hb5 hb6))) hv6).mono ?_; rintro e w7 ⟨rfl, hb7⟩))
    all_goals
      have hbF := Below.chain HB.out (Below.chain (Below.chain ((Below.refl W.heap.size W).drew) hb4) (Below.chain hb5 (Below.chain hb6 hb7)))
      clear hb4 hb5 hb6 hb7 hv4 hv5 hv6 c0 s0
      go_wp2_with (go_at_call 132; refine (HLG.out _).mono ?_; rintro e w8 ⟨rfl, rfl⟩; refine Hid.out ?_)
      refine Lib.hid ?_
      cases lg
      · go_wp2
        refine bodyPost_ret (by simp [results, Tryz.results81, go_sem]; rfl) rfl ?_
        exact ⟨rfl, hbF⟩
      · go_wp2
        refine bodyPost_ret (by simp [results, Tryz.results81, go_sem]; rfl) rfl ?_
        exact ⟨rfl, hbF⟩
  · have hbt : bt = false := by cases bt <;> simp_all
    subst hbt
    clear hbb
    go_enter Tryz.func81, Tryz.ntmps81
    go_wp2_with (go_at_call 90; refine (HCB.out _).mono ?_; rintro e w1 ⟨rfl, rfl⟩; refine Hid.out ?_)
    refine Lib.hid ?_
    go_wp2_with (go_at_call 133; refine (HIS.out _).mono ?_; rintro e w1 ⟨rfl, rfl⟩; refine Hid.out ?_)
    refine Lib.hid ?_
    go_wp2_with (go_at_call 133; refine (HIT.out _).mono ?_; rintro e w1 ⟨rfl, rfl⟩; refine Hid.out ?_)
    refine Lib.hid ?_
    go_wp2_with fail
    generalize w.alloc (Obj.cells #[.func (.func 124) #[] #[], .func (.func 125) #[] #[]] 87) = W at *
    have HB := Lib.hid B0; clear B0
    go_region_held3 (fun w' => w'.cell? ⟨w.heap.size, 1, none⟩ = some (.func (.func 125) #[] #[]) ∧ Below W.heap.size W w') (first | exact keepSRem (a := ⟨w.heap.size, 1, none⟩) s0 ⟨c0, Below.refl _ _⟩ ((Below.refl _ _).drew) | (refine keepSRem (a := ⟨w.heap.size, 1, none⟩) s0 ?_ (by assumption); assumption)) (first
      | (go_at_call_of 92 s; refine (HPS.out _).mono ?_; rintro e w4 ⟨v4, rfl, hv4, hb4⟩)
      | (go_at_call_of 92 t; refine (HPT.out _).mono ?_; rintro e w5 ⟨v5, rfl, hv5, hb5⟩)
      | (go_at_call 125; refine (HHL.out _ _ _ (hv4.mono hb5) hv5).mono ?_; rintro e w6 ⟨v6, rfl, hv6, hb6⟩)
      | (go_at_call 93; refine (HTX.out _ _ (Below.chain HB.out (Below.chain (Below.chain ((Below.refl _ _).drew) hb4) (Below.chain hb5 hb6))) hv6).mono ?_; rintro e w7 ⟨rfl, hb7⟩))
    all_goals
      have hbF := Below.chain HB.out (Below.chain (Below.chain ((Below.refl W.heap.size W).drew) hb4) (Below.chain hb5 (Below.chain hb6 hb7)))
      clear hb4 hb5 hb6 hb7 hv4 hv5 hv6 c0 s0
      go_wp2_with (go_at_call 132; refine (HLG.out _).mono ?_; rintro e w8 ⟨rfl, rfl⟩; refine Hid.out ?_)
      refine Lib.hid ?_
      cases lg
      · go_wp2
        refine bodyPost_ret (by simp [results, Tryz.results81, go_sem]; rfl) rfl ?_
        exact ⟨rfl, hbF⟩
      · go_wp2
        refine bodyPost_ret (by simp [results, Tryz.results81, go_sem]; rfl) rfl ?_
        exact ⟨rfl, hbF⟩
end Go.Proofs.YtbadibbdoljjhaaGreatDoor

/-
  bigint: remainder's closures; quotient, remainder; Quo, Rem.
-/
namespace Go.Proofs.YtbadibbdoljjhaaGreatDoor
open Go Go.Proofs Go.RowKit

set_option maxHeartbeats 1000000 in
theorem rem1_any (x y : Nat) (vx vy : Value) (w : World) (hx : NumAt w vx x) (hy : NumAt w vy y) (hlx : (limbs x).length ≤ 100000000000) (hly : (limbs y).length ≤ 100000000000) (hy0 : 0 < y) :
    Calls Tryz.prog 178 #[vx, vy] w fun e w' => ∃ v', e = .returned v' ∧ IntAt w' v' (((x % y : Nat) : Int)) ∧ Below w.heap.size w w' := by
  have C : ∀ W : World, Below w.heap.size w W → Calls Tryz.prog 179 #[vx, vy] W (RetN (x % y) W) := fun W hW => over_any x y vx vy W (hx.mono hW) (hy.mono hW) hlx
  have P : ∀ (W : World) (v : Value), NumAt W v (x % y) → Calls Tryz.prog 137 #[v] W fun e w' => ∃ v', e = .returned v' ∧ IntAt w' v' (((x % y : Nat) : Int)) ∧ Below W.heap.size W w' := fun W v h => plus_any _ v W h
  generalize (((x % y : Nat) : Int)) = z at *
  generalize x % y = s at *
  have HC := Lib.hid C; have HP := Lib.hid P
  obtain ⟨ao, c, rfl, -⟩ := hx
  obtain ⟨ap, d, rfl, -⟩ := hy
  clear C P hlx hly hy0
  generalize (limbs x).length = n at *
  generalize (limbs y).length = m at *
  have R0 := rbox_new w (Value.slice ao n c) (Value.slice ap m d) 93 93
  go_enter Tryz.func178, Tryz.ntmps178
  go_wp2_with (go_at_call 179; refine (HC.out _ R0.below).mono ?_; rintro e w1 ⟨v1, rfl, hv1, hb1⟩; refine Hid.out ?_)
  have R1 := R0.mono hb1
  refine Lib.hid ?_
  go_wp2_with (go_at_call 137; refine (HP.out _ _ hv1).mono ?_; rintro e w2 ⟨v2, rfl, hv2, hb2⟩; refine Hid.out ?_)
  have R2 := R1.mono hb2
  obtain ⟨a2, c2, rfl, hr2⟩ := hv2.open
  clear R0 R1 hb1 hb2 hv1 hv2
  have k1 := R2.r0; have k2 := R2.r1; have k3 := R2.f0; have k4 := R2.f1
  obtain ⟨hI, hS⟩ := IntAt.stored (w := w) (by omega : w.heap.size ≤ w.heap.size + 1 + 1) R2 hr2
  have q0 := hS.q0; have q1 := hS.q1; have hbF := hS.below
  have HI := Lib.hid hI
  clear hI hS hr2
  refine Lib.hid ?_
  go_wp2
  refine bodyPost_ret (v := .agg #[.bool (sgn z), .slice a2 (lenZ z) c2]) (by simp [results, Tryz.results178, go_sem, q0, q1]) rfl ?_
  exact ⟨_, rfl, HI.out, hbF⟩

set_option maxHeartbeats 1000000 in
theorem rem2_any (x y : Nat) (vx vy : Value) (w : World) (hx : NumAt w vx x) (hy : NumAt w vy y) (hlx : (limbs x).length ≤ 100000000000) (hly : (limbs y).length ≤ 100000000000) (hy0 : 0 < y) :
    Calls Tryz.prog 180 #[vx, vy] w fun e w' => ∃ v', e = .returned v' ∧ IntAt w' v' (-((missN x y : Nat) : Int)) ∧ Below w.heap.size w w' := by
  have C : ∀ W : World, Below w.heap.size w W → Calls Tryz.prog 181 #[vx, vy] W (RetN (missN x y) W) := fun W hW => missing_any x y vx vy W (hx.mono hW) (hy.mono hW) hlx hly hy0
  have P : ∀ (W : World) (v : Value), NumAt W v (missN x y) → Calls Tryz.prog 171 #[v] W fun e w' => ∃ v', e = .returned v' ∧ IntAt w' v' (-((missN x y : Nat) : Int)) ∧ Below W.heap.size W w' := fun W v h => minus_any _ v W h
  generalize (-((missN x y : Nat) : Int)) = z at *
  generalize missN x y = s at *
  have HC := Lib.hid C; have HP := Lib.hid P
  obtain ⟨ao, c, rfl, -⟩ := hx
  obtain ⟨ap, d, rfl, -⟩ := hy
  clear C P hlx hly hy0
  generalize (limbs x).length = n at *
  generalize (limbs y).length = m at *
  have R0 := rbox_new w (Value.slice ao n c) (Value.slice ap m d) 93 93
  go_enter Tryz.func180, Tryz.ntmps180
  go_wp2_with (go_at_call 181; refine (HC.out _ R0.below).mono ?_; rintro e w1 ⟨v1, rfl, hv1, hb1⟩; refine Hid.out ?_)
  have R1 := R0.mono hb1
  refine Lib.hid ?_
  go_wp2_with (go_at_call 171; refine (HP.out _ _ hv1).mono ?_; rintro e w2 ⟨v2, rfl, hv2, hb2⟩; refine Hid.out ?_)
  have R2 := R1.mono hb2
  obtain ⟨a2, c2, rfl, hr2⟩ := hv2.open
  clear R0 R1 hb1 hb2 hv1 hv2
  have k1 := R2.r0; have k2 := R2.r1; have k3 := R2.f0; have k4 := R2.f1
  obtain ⟨hI, hS⟩ := IntAt.stored (w := w) (by omega : w.heap.size ≤ w.heap.size + 1 + 1) R2 hr2
  have q0 := hS.q0; have q1 := hS.q1; have hbF := hS.below
  have HI := Lib.hid hI
  clear hI hS hr2
  refine Lib.hid ?_
  go_wp2
  refine bodyPost_ret (v := .agg #[.bool (sgn z), .slice a2 (lenZ z) c2]) (by simp [results, Tryz.results180, go_sem, q0, q1]) rfl ?_
  exact ⟨_, rfl, HI.out, hbF⟩

set_option maxHeartbeats 1000000 in
theorem rem3_any (x y : Nat) (vx vy : Value) (w : World) (hx : NumAt w vx x) (hy : NumAt w vy y) (hlx : (limbs x).length ≤ 100000000000) (hly : (limbs y).length ≤ 100000000000) (hy0 : 0 < y) :
    Calls Tryz.prog 182 #[vx, vy] w fun e w' => ∃ v', e = .returned v' ∧ IntAt w' v' (((missN x y : Nat) : Int)) ∧ Below w.heap.size w w' := by
  have C : ∀ W : World, Below w.heap.size w W → Calls Tryz.prog 181 #[vx, vy] W (RetN (missN x y) W) := fun W hW => missing_any x y vx vy W (hx.mono hW) (hy.mono hW) hlx hly hy0
  have P : ∀ (W : World) (v : Value), NumAt W v (missN x y) → Calls Tryz.prog 137 #[v] W fun e w' => ∃ v', e = .returned v' ∧ IntAt w' v' (((missN x y : Nat) : Int)) ∧ Below W.heap.size W w' := fun W v h => plus_any _ v W h
  generalize (((missN x y : Nat) : Int)) = z at *
  generalize missN x y = s at *
  have HC := Lib.hid C; have HP := Lib.hid P
  obtain ⟨ao, c, rfl, -⟩ := hx
  obtain ⟨ap, d, rfl, -⟩ := hy
  clear C P hlx hly hy0
  generalize (limbs x).length = n at *
  generalize (limbs y).length = m at *
  have R0 := rbox_new w (Value.slice ao n c) (Value.slice ap m d) 93 93
  go_enter Tryz.func182, Tryz.ntmps182
  go_wp2_with (go_at_call 181; refine (HC.out _ R0.below).mono ?_; rintro e w1 ⟨v1, rfl, hv1, hb1⟩; refine Hid.out ?_)
  have R1 := R0.mono hb1
  refine Lib.hid ?_
  go_wp2_with (go_at_call 137; refine (HP.out _ _ hv1).mono ?_; rintro e w2 ⟨v2, rfl, hv2, hb2⟩; refine Hid.out ?_)
  have R2 := R1.mono hb2
  obtain ⟨a2, c2, rfl, hr2⟩ := hv2.open
  clear R0 R1 hb1 hb2 hv1 hv2
  have k1 := R2.r0; have k2 := R2.r1; have k3 := R2.f0; have k4 := R2.f1
  obtain ⟨hI, hS⟩ := IntAt.stored (w := w) (by omega : w.heap.size ≤ w.heap.size + 1 + 1) R2 hr2
  have q0 := hS.q0; have q1 := hS.q1; have hbF := hS.below
  have HI := Lib.hid hI
  clear hI hS hr2
  refine Lib.hid ?_
  go_wp2
  refine bodyPost_ret (v := .agg #[.bool (sgn z), .slice a2 (lenZ z) c2]) (by simp [results, Tryz.results182, go_sem, q0, q1]) rfl ?_
  exact ⟨_, rfl, HI.out, hbF⟩

set_option maxHeartbeats 1000000 in
theorem rem4_any (x y : Nat) (vx vy : Value) (w : World) (hx : NumAt w vx x) (hy : NumAt w vy y) (hlx : (limbs x).length ≤ 100000000000) (hly : (limbs y).length ≤ 100000000000) (hy0 : 0 < y) :
    Calls Tryz.prog 183 #[vx, vy] w fun e w' => ∃ v', e = .returned v' ∧ IntAt w' v' (-((x % y : Nat) : Int)) ∧ Below w.heap.size w w' := by
  have C : ∀ W : World, Below w.heap.size w W → Calls Tryz.prog 179 #[vx, vy] W (RetN (x % y) W) := fun W hW => over_any x y vx vy W (hx.mono hW) (hy.mono hW) hlx
  have P : ∀ (W : World) (v : Value), NumAt W v (x % y) → Calls Tryz.prog 171 #[v] W fun e w' => ∃ v', e = .returned v' ∧ IntAt w' v' (-((x % y : Nat) : Int)) ∧ Below W.heap.size W w' := fun W v h => minus_any _ v W h
  generalize (-((x % y : Nat) : Int)) = z at *
  generalize x % y = s at *
  have HC := Lib.hid C; have HP := Lib.hid P
  obtain ⟨ao, c, rfl, -⟩ := hx
  obtain ⟨ap, d, rfl, -⟩ := hy
  clear C P hlx hly hy0
  generalize (limbs x).length = n at *
  generalize (limbs y).length = m at *
  have R0 := rbox_new w (Value.slice ao n c) (Value.slice ap m d) 93 93
  go_enter Tryz.func183, Tryz.ntmps183
  go_wp2_with (go_at_call 179; refine (HC.out _ R0.below).mono ?_; rintro e w1 ⟨v1, rfl, hv1, hb1⟩; refine Hid.out ?_)
  have R1 := R0.mono hb1
  refine Lib.hid ?_
  go_wp2_with (go_at_call 171; refine (HP.out _ _ hv1).mono ?_; rintro e w2 ⟨v2, rfl, hv2, hb2⟩; refine Hid.out ?_)
  have R2 := R1.mono hb2
  obtain ⟨a2, c2, rfl, hr2⟩ := hv2.open
  clear R0 R1 hb1 hb2 hv1 hv2
  have k1 := R2.r0; have k2 := R2.r1; have k3 := R2.f0; have k4 := R2.f1
  obtain ⟨hI, hS⟩ := IntAt.stored (w := w) (by omega : w.heap.size ≤ w.heap.size + 1 + 1) R2 hr2
  have q0 := hS.q0; have q1 := hS.q1; have hbF := hS.below
  have HI := Lib.hid hI
  clear hI hS hr2
  refine Lib.hid ?_
  go_wp2
  refine bodyPost_ret (v := .agg #[.bool (sgn z), .slice a2 (lenZ z) c2]) (by simp [results, Tryz.results183, go_sem, q0, q1]) rfl ?_
  exact ⟨_, rfl, HI.out, hbF⟩


theorem up_limbs (x y : Nat) (hx : (limbs x).length ≤ 1000000) (hy : (limbs y).length ≤ 1000000) (hy0 : 0 < y) : (limbs (x + (if y < 1 then 1 - y else y - 1))).length ≤ 100000000000 ∧ (limbs (if y < 1 then 1 - y else y - 1)).length ≤ 100000000000 := by
  rw [if_neg (by omega)]
  obtain ⟨k, hk⟩ : ∃ k : Nat, k = 1000000 := ⟨_, rfl⟩
  have h1 := Nat.lt_of_lt_of_le (lt_pow_limbs x) (Nat.pow_le_pow_right (by decide) (by omega : (limbs x).length ≤ k))
  have h2 := Nat.lt_of_lt_of_le (lt_pow_limbs y) (Nat.pow_le_pow_right (by decide) (by omega : (limbs y).length ≤ k))
  have e1 : x + (y - 1) < 1000000000 ^ (k + 1) := by
    rw [Nat.pow_succ]
    generalize (1000000000 : Nat) ^ k = r at *
    omega
  have e2 : y - 1 < 1000000000 ^ (k + 1) := by omega
  exact ⟨Nat.le_trans (limbs_length_le e1) (by omega), Nat.le_trans (limbs_length_le e2) (by omega)⟩

theorem quotientTab (x y : Int) (va vb : Value) (w : World) (ha : IntAt w va x) (hb : IntAt w vb y) (hlx : (limbs x.natAbs).length ≤ 1000000) (hly : (limbs y.natAbs).length ≤ 1000000) (hy0 : y ≠ 0) :
    Calls Tryz.prog 172 #[tabV 173 175 175 173, va, vb] w fun e w' => ∃ v', e = .returned v' ∧ IntAt w' v' (x.fdiv y) ∧ Below w.heap.size w w' := by
  have e1 : ∀ args w, (callFunc 173 args).run Tryz.prog w = .ok (.enter 173 args) w := enters_of Tryz.func173 (by kernel_rfl) rfl
  have e2 : ∀ args w, (callFunc 175 args).run Tryz.prog w = .ok (.enter 175 args) w := enters_of Tryz.func175 (by kernel_rfl) rfl
  obtain ⟨u1, u2⟩ := up_limbs x.natAbs y.natAbs hlx hly (by omega)
  by_cases hx : x < 0 <;> by_cases hy : y < 0
  · refine apply11 _ _ _ _ x y (x.fdiv y) va vb w ha hb hx hy e1 fun W v1 v2 h1 h2 => ?_
    rw [fdiv_same x y hy0 (propext ⟨fun _ => hy, fun _ => hx⟩)]
    exact quoSame_any x.natAbs y.natAbs v1 v2 W h1 h2 (by omega)
  · refine apply10 _ _ _ _ x y (x.fdiv y) va vb w ha hb hx hy e2 fun W v1 v2 h1 h2 => ?_
    rw [fdiv_opp x y hy0 (fun e => hy (e ▸ hx))]
    exact quoOpp_any x.natAbs y.natAbs v1 v2 W h1 h2 (by omega) (by omega) u1 u2
  · refine apply01 _ _ _ _ x y (x.fdiv y) va vb w ha hb hx hy e2 fun W v1 v2 h1 h2 => ?_
    rw [fdiv_opp x y hy0 (fun e => hx (e ▸ hy))]
    exact quoOpp_any x.natAbs y.natAbs v1 v2 W h1 h2 (by omega) (by omega) u1 u2
  · refine apply00 _ _ _ _ x y (x.fdiv y) va vb w ha hb hx hy e1 fun W v1 v2 h1 h2 => ?_
    rw [fdiv_same x y hy0 (propext ⟨fun h => absurd h hx, fun h => absurd h hy⟩)]
    exact quoSame_any x.natAbs y.natAbs v1 v2 W h1 h2 (by omega)

theorem remainderTab (x y : Int) (va vb : Value) (w : World) (ha : IntAt w va x) (hb : IntAt w vb y) (hlx : (limbs x.natAbs).length ≤ 1000000) (hly : (limbs y.natAbs).length ≤ 1000000) (hy0 : y ≠ 0) :
    Calls Tryz.prog 172 #[tabV 178 180 182 183, va, vb] w fun e w' => ∃ v', e = .returned v' ∧ IntAt w' v' (x.fmod y) ∧ Below w.heap.size w w' := by
  have e1 : ∀ args w, (callFunc 178 args).run Tryz.prog w = .ok (.enter 178 args) w := enters_of Tryz.func178 (by kernel_rfl) rfl
  have e2 : ∀ args w, (callFunc 180 args).run Tryz.prog w = .ok (.enter 180 args) w := enters_of Tryz.func180 (by kernel_rfl) rfl
  have e3 : ∀ args w, (callFunc 182 args).run Tryz.prog w = .ok (.enter 182 args) w := enters_of Tryz.func182 (by kernel_rfl) rfl
  have e4 : ∀ args w, (callFunc 183 args).run Tryz.prog w = .ok (.enter 183 args) w := enters_of Tryz.func183 (by kernel_rfl) rfl
  by_cases hx : x < 0 <;> by_cases hy : y < 0
  · refine apply11 _ _ _ _ x y (x.fmod y) va vb w ha hb hx hy e4 fun W v1 v2 h1 h2 => ?_
    rw [fmod_nn x y hx hy]
    exact rem4_any x.natAbs y.natAbs v1 v2 W h1 h2 (by omega) (by omega) (by omega)
  · refine apply10 _ _ _ _ x y (x.fmod y) va vb w ha hb hx hy e3 fun W v1 v2 h1 h2 => ?_
    rw [fmod_np x y hy0 hx hy]
    exact rem3_any x.natAbs y.natAbs v1 v2 W h1 h2 (by omega) (by omega) (by omega)
  · refine apply01 _ _ _ _ x y (x.fmod y) va vb w ha hb hx hy e2 fun W v1 v2 h1 h2 => ?_
    rw [fmod_pn x y hy0 hx hy]
    exact rem2_any x.natAbs y.natAbs v1 v2 W h1 h2 (by omega) (by omega) (by omega)
  · refine apply00 _ _ _ _ x y (x.fmod y) va vb w ha hb hx hy e1 fun W v1 v2 h1 h2 => ?_
    rw [fmod_pp x y hx hy]
    exact rem1_any x.natAbs y.natAbs v1 v2 W h1 h2 (by omega) (by omega) (by omega)

set_option maxHeartbeats 2000000 in
theorem quotientZ (x y : Int) (va vb : Value) (w : World) (ha : IntAt w va x) (hb : IntAt w vb y) (hlx : (limbs x.natAbs).length ≤ 1000000) (hly : (limbs y.natAbs).length ≤ 1000000) (hy0 : y ≠ 0) :
    Calls Tryz.prog 123 #[va, vb] w fun e w' => ∃ v', e = .returned v' ∧ IntAt w' v' (x.fdiv y) ∧ Below w.heap.size w w' := by
  have C : ∀ W : World, Below w.heap.size w W → Calls Tryz.prog 172 #[tabV 173 175 175 173, va, vb] W fun e w' => ∃ v', e = .returned v' ∧ IntAt w' v' (x.fdiv y) ∧ Below W.heap.size W w' := fun W hW => quotientTab x y va vb W (ha.mono hW) (hb.mono hW) hlx hly hy0
  have HC := Lib.hid C
  obtain ⟨ao, c, rfl, -⟩ := ha
  obtain ⟨ap, d, rfl, -⟩ := hb
  clear C hlx hly hy0
  generalize (limbs x.natAbs).length = n at *
  generalize (limbs y.natAbs).length = m at *
  generalize decide (x < 0) = ba at *
  generalize decide (y < 0) = bb at *
  generalize x.fdiv y = z at *
  have R0 := rbox3_new w ba bb ao ap n c m d
  go_enter Tryz.func123, Tryz.ntmps123
  go_wp2_with (go_at_call 172; refine (HC.out _ R0.below).mono ?_; rintro e w2 ⟨v2, rfl, hv2, hb2⟩; refine Hid.out ?_)
  have R2 := R0.mono hb2
  obtain ⟨a2, c2, rfl, hr2⟩ := hv2.open
  clear R0 hb2 hv2
  have k1 := R2.r0; have k2 := R2.r1; have k3 := R2.f0; have k4 := R2.f1
  obtain ⟨hI, hS⟩ := IntAt.stored (w := w) (by omega : w.heap.size ≤ w.heap.size + 1 + 1) R2 hr2
  have q0 := hS.q0; have q1 := hS.q1; have hbF := hS.below
  have HI := Lib.hid hI
  clear hI hS hr2
  refine Lib.hid ?_
  go_wp2
  refine bodyPost_ret (v := .agg #[.bool (sgn z), .slice a2 (lenZ z) c2]) (by simp [results, Tryz.results123, go_sem, q0, q1]) rfl ?_
  exact ⟨_, rfl, HI.out, hbF⟩

set_option maxHeartbeats 2000000 in
theorem remainderZ (x y : Int) (va vb : Value) (w : World) (ha : IntAt w va x) (hb : IntAt w vb y) (hlx : (limbs x.natAbs).length ≤ 1000000) (hly : (limbs y.natAbs).length ≤ 1000000) (hy0 : y ≠ 0) :
    Calls Tryz.prog 125 #[va, vb] w fun e w' => ∃ v', e = .returned v' ∧ IntAt w' v' (x.fmod y) ∧ Below w.heap.size w w' := by
  have C : ∀ W : World, Below w.heap.size w W → Calls Tryz.prog 172 #[tabV 178 180 182 183, va, vb] W fun e w' => ∃ v', e = .returned v' ∧ IntAt w' v' (x.fmod y) ∧ Below W.heap.size W w' := fun W hW => remainderTab x y va vb W (ha.mono hW) (hb.mono hW) hlx hly hy0
  have HC := Lib.hid C
  obtain ⟨ao, c, rfl, -⟩ := ha
  obtain ⟨ap, d, rfl, -⟩ := hb
  clear C hlx hly hy0
  generalize (limbs x.natAbs).length = n at *
  generalize (limbs y.natAbs).length = m at *
  generalize decide (x < 0) = ba at *
  generalize decide (y < 0) = bb at *
  generalize x.fmod y = z at *
  have R0 := rbox3_new w ba bb ao ap n c m d
  go_enter Tryz.func125, Tryz.ntmps125
  go_wp2_with (go_at_call 172; refine (HC.out _ R0.below).mono ?_; rintro e w2 ⟨v2, rfl, hv2, hb2⟩; refine Hid.out ?_)
  have R2 := R0.mono hb2
  obtain ⟨a2, c2, rfl, hr2⟩ := hv2.open
  clear R0 hb2 hv2
  have k1 := R2.r0; have k2 := R2.r1; have k3 := R2.f0; have k4 := R2.f1
  obtain ⟨hI, hS⟩ := IntAt.stored (w := w) (by omega : w.heap.size ≤ w.heap.size + 1 + 1) R2 hr2
  have q0 := hS.q0; have q1 := hS.q1; have hbF := hS.below
  have HI := Lib.hid hI
  clear hI hS hr2
  refine Lib.hid ?_
  go_wp2
  refine bodyPost_ret (v := .agg #[.bool (sgn z), .slice a2 (lenZ z) c2]) (by simp [results, Tryz.results125, go_sem, q0, q1]) rfl ?_
  exact ⟨_, rfl, HI.out, hbF⟩

end Go.Proofs.YtbadibbdoljjhaaGreatDoor
