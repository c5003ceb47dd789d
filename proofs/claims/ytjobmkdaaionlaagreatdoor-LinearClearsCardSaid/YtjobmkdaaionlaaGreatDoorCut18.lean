import Derived.Deep.RegionHeld3
import Derived.Test.YtjobmkdaaionlaaGreatDoorCut5
import Derived.Test.YtjobmkdaaionlaaGreatDoorOwnGcdN
import Derived.Test.YtjobmkdaaionlaaGreatDoorCut13
import Derived.Test.YtjobmkdaaionlaaGreatDoorCut16

set_option linter.unusedVariables false
/-
  bigint.compute of Gcd, for long integers. (made by tools/comp.py)
-/
namespace Go.Proofs.YtjobmkdaaionlaaGreatDoor
open Go Go.Proofs Go.RowKit Go.Sort
theorem keepSGcd {W w1 w2 : World} {a : Addr} {v : Value} (hlt : a.block < W.heap.size) (h : w1.cell? a = some v ∧ Below W.heap.size W w1) (hb : Below w1.heap.size w1 w2) : w2.cell? a = some v ∧ Below W.heap.size W w2 :=
  ⟨(hb.cell (Nat.lt_of_lt_of_le hlt h.2.size)).trans h.1, Below.chain h.2 hb⟩
set_option maxHeartbeats 4000000 in
theorem compGcd_long (s t : ByteArray) (x y r : Int) (w : World) (hs : Str s x) (ht : Str t y) (hxy : ¬ (x.natAbs < 1000000000 ∧ y.natAbs < 1000000000)) (hr : (limbs r.natAbs).length ≤ 1000000000000)
    (HL : ∀ (W : World) (v1 v2 : Value), IntAt W v1 x → IntAt W v2 y → Calls Tryz.prog 147 #[v1, v2] W fun e w' => ∃ v, e = .returned v ∧ IntAt w' v r ∧ Below W.heap.size W w')
    (htab : Lib.TabIs Tryz.prog w "internal/strconv.uint64pow10" .u64 Lib.pow10Tab) :
    Calls Tryz.prog 145 #[opV 146 147, .string s, .string t] w fun e w' =>
      e = .returned (if 4096 < (Lib.decDigits r.natAbs).length then .tuple #[.string ⟨#[]⟩, .int .i64 10] else .tuple #[.string (str (Lib.itoa r)), .int .i64 0]) ∧ Below w.heap.size w w' := by
  have hsz := hs.size
  have htz := ht.size
  have CB := fun W => checkBoth_any s t W (by omega) (by omega)
  have hb : errBoth (bytes s) (bytes t) = 0 := by unfold errBoth; rw [if_pos hs.err, ht.err]
  rw [hb] at CB
  obtain ⟨bs, bt, hbs, hbt, hbb⟩ : ∃ bs bt : Bool, decide ((digL (bytes s)).length ≤ 9) = bs ∧ decide ((digL (bytes t)).length ≤ 9) = bt ∧ ¬ (bs = true ∧ bt = true) := by
    refine ⟨_, _, rfl, rfl, fun ⟨h1, h2⟩ => hxy ⟨?_, ?_⟩⟩
    · exact Decidable.byContradiction fun h => by rw [hs.notShort h] at h1; cases h1
    · exact Decidable.byContradiction fun h => by rw [ht.notShort h] at h2; cases h2
  have IS := fun W => isShort_any s W (by omega)
  have IT := fun W => isShort_any t W (by omega)
  rw [hbs] at IS
  rw [hbt] at IT
  have PS := fun W => parseZ_any s x W hs.text (by omega)
  have PT := fun W => parseZ_any t y W ht.text (by omega)
  have TX : ∀ (W : World) (v : Value), Below w.heap.size w W → IntAt W v r → Calls Tryz.prog 171 #[v] W fun e w' => e = .returned (.string (str (Lib.itoa r))) ∧ Below W.heap.size W w' := fun W v hW hv =>
    textZ_any r v W hv hr ((Lib.tabBelow_of_tabIs htab).on hW).here
  have LG := fun W => isLong_any (str (Lib.itoa r)) W (by
    rw [str_size]
    have h1 := decDigits_limbs r.natAbs
    by_cases hz : r < 0
    · rw [itoa_neg hz]; simp; omega
    · rw [itoa_nonneg hz]; omega)
  rw [bytes_str, digL_itoa] at LG
  have HCB := Lib.hid CB; have HIS := Lib.hid IS; have HIT := Lib.hid IT; have HPS := Lib.hid PS; have HPT := Lib.hid PT; have HTX := Lib.hid TX; have HHL := Lib.hid HL; have HLG := Lib.hid LG
  clear CB IS IT PS PT TX HL LG hb htab hs ht hxy hr hbs hbt
  generalize str (Lib.itoa r) = rs at *
  generalize hlong : decide (4096 < (Lib.decDigits r.natAbs).length) = lg at *
  have hres : (if 4096 < (Lib.decDigits r.natAbs).length then Value.tuple #[.string ⟨#[]⟩, .int .i64 10] else .tuple #[.string rs, .int .i64 0]) = if lg = true then .tuple #[.string ⟨#[]⟩, .int .i64 10] else .tuple #[.string rs, .int .i64 0] := by
    rw [← hlong]; simp
  rw [hres]
  clear hres hlong
  unfold opV
  have B0 : Below w.heap.size w (w.alloc (Obj.cells #[.func (.func 146) #[] #[], .func (.func 147) #[] #[]] 166)) := (Below.refl _ _).alloc (Nat.le_refl _) _
  have c0 : (w.alloc (Obj.cells #[.func (.func 146) #[] #[], .func (.func 147) #[] #[]] 166)).cell? ⟨w.heap.size, 1, none⟩ = some (.func (.func 147) #[] #[]) := by go_cell
  have s0 : w.heap.size < (w.alloc (Obj.cells #[.func (.func 146) #[] #[], .func (.func 147) #[] #[]] 166)).heap.size := by simp
  have key : ∀ W : World, Below w.heap.size w W → W.cell? ⟨w.heap.size, 1, none⟩ = some (.func (.func 147) #[] #[]) → w.heap.size < W.heap.size → True := fun _ _ _ _ => trivial
  clear key
  cases bs
  · go_enter Tryz.func145, Tryz.ntmps145
    go_wp2_with (go_at_call 166; refine (HCB.out _).mono ?_; rintro e w1 ⟨rfl, rfl⟩; refine Hid.out ?_)
    refine Lib.hid ?_
    go_wp2_with (go_at_call 167; refine (HIS.out _).mono ?_; rintro e w1 ⟨rfl, rfl⟩; refine Hid.out ?_)
    refine Lib.hid ?_
    go_wp2_with fail
    generalize w.alloc (Obj.cells #[.func (.func 146) #[] #[], .func (.func 147) #[] #[]] 166) = W at *
    have HB := Lib.hid B0; clear B0
    go_region_held3 (fun w' => w'.cell? ⟨w.heap.size, 1, none⟩ = some (.func (.func 147) #[] #[]) ∧ Below W.heap.size W w') (first | exact keepSGcd (a := ⟨w.heap.size, 1, none⟩) s0 ⟨c0, Below.refl _ _⟩ ((Below.refl _ _).drew) | (refine keepSGcd (a := ⟨w.heap.size, 1, none⟩) s0 ?_ (by assumption); assumption)) (first
      | (go_at_call_of 170 s; refine (HPS.out _).mono ?_; rintro e w4 ⟨v4, rfl, hv4, hb4⟩)
      | (go_at_call_of 170 t; refine (HPT.out _).mono ?_; rintro e w5 ⟨v5, rfl, hv5, hb5⟩)
      | (go_at_call 147; refine (HHL.out _ _ _ (hv4.mono hb5) hv5).mono ?_; rintro e w6 ⟨v6, rfl, hv6, hb6⟩)
      | (go_at_call 171; refine (HTX.out _ _ (Below.chain HB.out (Below.chain (Below.chain ((Below.refl _ _).drew) hb4) (Below.chain hb5 hb6))) hv6).mono ?_; rintro e w7 ⟨rfl, hb7⟩))
    all_goals
      have hbF := Below.chain HB.out (Below.chain (Below.chain ((Below.refl W.heap.size W).drew) hb4) (Below.chain hb5 (Below.chain hb6 hb7)))
      clear hb4 hb5 hb6 hb7 hv4 hv5 hv6 c0 s0
      go_wp2_with (go_at_call 161; refine (HLG.out _).mono ?_; rintro e w8 ⟨rfl, rfl⟩; refine Hid.out ?_)
      refine Lib.hid ?_
      cases lg
      · go_wp2
        refine bodyPost_ret (by simp [results, Tryz.results145, go_sem]; rfl) rfl ?_
        exact ⟨rfl, hbF⟩
      · go_wp2
        refine bodyPost_ret (by simp [results, Tryz.results145, go_sem]; rfl) rfl ?_
        exact ⟨rfl, hbF⟩
  · have hbt : bt = false := by cases bt <;> simp_all
    subst hbt
    clear hbb
    go_enter Tryz.func145, Tryz.ntmps145
    go_wp2_with (go_at_call 166; refine (HCB.out _).mono ?_; rintro e w1 ⟨rfl, rfl⟩; refine Hid.out ?_)
    refine Lib.hid ?_
    go_wp2_with (go_at_call 167; refine (HIS.out _).mono ?_; rintro e w1 ⟨rfl, rfl⟩; refine Hid.out ?_)
    refine Lib.hid ?_
    go_wp2_with (go_at_call 167; refine (HIT.out _).mono ?_; rintro e w1 ⟨rfl, rfl⟩; refine Hid.out ?_)
    refine Lib.hid ?_
    go_wp2_with fail
    generalize w.alloc (Obj.cells #[.func (.func 146) #[] #[], .func (.func 147) #[] #[]] 166) = W at *
    have HB := Lib.hid B0; clear B0
    go_region_held3 (fun w' => w'.cell? ⟨w.heap.size, 1, none⟩ = some (.func (.func 147) #[] #[]) ∧ Below W.heap.size W w') (first | exact keepSGcd (a := ⟨w.heap.size, 1, none⟩) s0 ⟨c0, Below.refl _ _⟩ ((Below.refl _ _).drew) | (refine keepSGcd (a := ⟨w.heap.size, 1, none⟩) s0 ?_ (by assumption); assumption)) (first
      | (go_at_call_of 170 s; refine (HPS.out _).mono ?_; rintro e w4 ⟨v4, rfl, hv4, hb4⟩)
      | (go_at_call_of 170 t; refine (HPT.out _).mono ?_; rintro e w5 ⟨v5, rfl, hv5, hb5⟩)
      | (go_at_call 147; refine (HHL.out _ _ _ (hv4.mono hb5) hv5).mono ?_; rintro e w6 ⟨v6, rfl, hv6, hb6⟩)
      | (go_at_call 171; refine (HTX.out _ _ (Below.chain HB.out (Below.chain (Below.chain ((Below.refl _ _).drew) hb4) (Below.chain hb5 hb6))) hv6).mono ?_; rintro e w7 ⟨rfl, hb7⟩))
    all_goals
      have hbF := Below.chain HB.out (Below.chain (Below.chain ((Below.refl W.heap.size W).drew) hb4) (Below.chain hb5 (Below.chain hb6 hb7)))
      clear hb4 hb5 hb6 hb7 hv4 hv5 hv6 c0 s0
      go_wp2_with (go_at_call 161; refine (HLG.out _).mono ?_; rintro e w8 ⟨rfl, rfl⟩; refine Hid.out ?_)
      refine Lib.hid ?_
      cases lg
      · go_wp2
        refine bodyPost_ret (by simp [results, Tryz.results145, go_sem]; rfl) rfl ?_
        exact ⟨rfl, hbF⟩
      · go_wp2
        refine bodyPost_ret (by simp [results, Tryz.results145, go_sem]; rfl) rfl ?_
        exact ⟨rfl, hbF⟩
end Go.Proofs.YtjobmkdaaionlaaGreatDoor

namespace Go.Proofs.YtjobmkdaaionlaaGreatDoor
open Go Go.Proofs Go.RowKit
set_option maxHeartbeats 1000000 in
theorem commonDivisorZ (x y : Int) (va vb : Value) (w : World) (ha : IntAt w va x) (hb : IntAt w vb y) (hlx : (limbs x.natAbs).length ≤ 10000000000) (hly : (limbs y.natAbs).length ≤ 10000000000) :
    Calls Tryz.prog 147 #[va, vb] w fun e w' => ∃ v', e = .returned v' ∧ IntAt w' v' ((Int.gcd x y : Nat) : Int) ∧ Below w.heap.size w w' := by
  have hC : ∀ (v1 v2 : Value), NumAt w v1 x.natAbs → NumAt w v2 y.natAbs → ∀ W : World, Below w.heap.size w W → Calls Tryz.prog 162 #[v1, v2] W (RetN (Int.gcd x y) W) := fun v1 v2 h1 h2 W hW => gcdN_any x.natAbs y.natAbs v1 v2 W (h1.mono hW) (h2.mono hW) hlx hly
  obtain ⟨ao, c, rfl, hra⟩ := ha
  obtain ⟨ap, d, rfl, hrb⟩ := hb
  have C := hC _ _ ⟨ao, c, rfl, hra⟩ ⟨ap, d, rfl, hrb⟩
  have P : ∀ (W : World) (v : Value), NumAt W v (Int.gcd x y) → Calls Tryz.prog 173 #[v] W fun e w' => ∃ v', e = .returned v' ∧ IntAt w' v' ((Int.gcd x y : Nat) : Int) ∧ Below W.heap.size W w' := fun W v h => plus_any _ v W h
  clear hra hrb hC
  have HC := Lib.hid C; have HP := Lib.hid P
  clear C P hlx hly
  generalize (limbs x.natAbs).length = n at *
  generalize (limbs y.natAbs).length = m at *
  generalize decide (x < 0) = ba at *
  generalize decide (y < 0) = bb at *
  generalize ((Int.gcd x y : Nat) : Int) = z at *
  have R0 := rbox3_new w ba bb ao ap n c m d
  go_enter Tryz.func147, Tryz.ntmps147
  go_wp2_with (go_at_call 162; refine (HC.out _ R0.below).mono ?_; rintro e w1 ⟨v1, rfl, hv1, hb1⟩; refine Hid.out ?_)
  have R1 := R0.mono hb1
  refine Lib.hid ?_
  go_wp2_with (go_at_call 173; refine (HP.out _ _ hv1).mono ?_; rintro e w2 ⟨v2, rfl, hv2, hb2⟩; refine Hid.out ?_)
  have R2 := R1.mono hb2
  obtain ⟨a2, c2, rfl, hr2⟩ := hv2.open
  clear R0 R1 hb1 hb2 hv1 hv2
  have k1 := R2.r0; have k2 := R2.r1; have k3 := R2.f0; have k4 := R2.f1
  obtain ⟨hI, hS⟩ := IntAt.stored (w := w) (by omega : w.heap.size ≤ w.heap.size + 1 + 1) R2 hr2
  have q0 := hS.q0; have q1 := hS.q1; have hbF := hS.below
  have HI := Lib.hid hI
  clear hI hS hr2
  refine Lib.hid ?_
  go_wp2
  refine bodyPost_ret (v := .agg #[.bool (sgn z), .slice a2 (lenZ z) c2]) (by simp [results, Tryz.results147, go_sem, q0, q1]) rfl ?_
  exact ⟨_, rfl, HI.out, hbF⟩
theorem gcd_digits {s t : ByteArray} {x y : Int} (hs : Str s x) (ht : Str t y) : ((Int.gcd x y : Nat) : Int).natAbs < 10 ^ 4096 := by
  rw [Int.natAbs_natCast]
  obtain ⟨k, hk⟩ : ∃ k : Nat, k = 4096 := ⟨_, rfl⟩
  rw [← hk]
  exact gcd_le x y (10 ^ k) (hs.lt (by omega)) (ht.lt (by omega))
theorem gcd_limbs {s t : ByteArray} {x y : Int} (hs : Str s x) (ht : Str t y) : (limbs ((Int.gcd x y : Nat) : Int).natAbs).length ≤ 911 := by
  obtain ⟨k, hk⟩ : ∃ k : Nat, k = 4096 := ⟨_, rfl⟩
  refine limbs_of_pow (k := k + k) ?_ (by omega)
  have h := gcd_digits hs ht
  rw [← hk] at h
  exact Nat.lt_of_lt_of_le h (Nat.pow_le_pow_right (by decide) (by omega))
theorem compGcd (s t : ByteArray) (x y : Int) (w : World) (hs : Str s x) (ht : Str t y) (htab : Lib.TabIs Tryz.prog w "internal/strconv.uint64pow10" .u64 Lib.pow10Tab) :
    Calls Tryz.prog 145 #[opV 146 147, .string s, .string t] w fun e w' => e = .returned (resV ((Int.gcd x y : Nat) : Int)) ∧ Below w.heap.size w w' := by
  by_cases h : x.natAbs < 1000000000 ∧ y.natAbs < 1000000000
  · have hg := gcd_le x y 1000000000 h.1 h.2
    have := compGcd_short s t x y ((Int.gcd x y : Nat) : Int) w hs ht h.1 h.2 (by omega) (by omega) (fun W => gcdS x y W h.1 h.2) htab
    rwa [← resV_small (r := ((Int.gcd x y : Nat) : Int)) (by omega)] at this
  · exact compGcd_long s t x y ((Int.gcd x y : Nat) : Int) w hs ht h (by have := gcd_limbs hs ht; omega) (fun W v1 v2 h1 h2 => commonDivisorZ x y v1 v2 W h1 h2 (by have := hs.limbs; omega) (by have := ht.limbs; omega)) htab
set_option maxHeartbeats 1000000 in
theorem gcdZ (s t : ByteArray) (x y : Int) (w : World) (hs : Str s x) (ht : Str t y) (htab : Lib.TabIs Tryz.prog w "internal/strconv.uint64pow10" .u64 Lib.pow10Tab) :
    Calls Tryz.prog 106 #[.string s, .string t] w fun e w' => e = .returned (resV ((Int.gcd x y : Nat) : Int)) ∧ Below w.heap.size w w' := by
  have C := compGcd s t x y w hs ht htab
  obtain ⟨a, e0, hr⟩ := resV_parts ((Int.gcd x y : Nat) : Int)
  rw [hr] at C ⊢
  clear hr hs ht htab
  unfold opV at C
  have HC := Lib.hid C; clear C
  go_enter Tryz.func106, Tryz.ntmps106
  go_wp2_with (go_at_call 145; refine HC.out.mono ?_; rintro e w2 ⟨rfl, hb2⟩; refine Hid.out ?_)
  refine Lib.hid ?_
  go_wp2
  refine bodyPost_ret (by simp [results, Tryz.results106, go_sem]; rfl) rfl ?_
  exact ⟨rfl, hb2⟩
def fz (u : Nat) : List UInt8 := if u = 0 then [] else Lib.decDigits u
theorem fz_step {u : Nat} (h : u ≠ 0) : fz u = fz (u / 10) ++ [UInt8.ofNat (48 + u % 10)] := by
  unfold fz
  rw [if_neg h]
  by_cases h1 : u < 10
  · rw [if_pos (by omega), Lib.decDigits, dif_pos h1, Nat.mod_eq_of_lt h1]; rfl
  · rw [if_neg (by omega)]
    conv => lhs; rw [Lib.decDigits, dif_neg h1]
def digitC (d : Nat) : UInt8 := UInt8.ofNat (48 + d)
theorem ten_at : ∀ d, d < 10 → (⟨#[48, 49, 50, 51, 52, 53, 54, 55, 56, 57]⟩ : ByteArray).extract d (d + 1) = str [digitC d] := by decide +kernel
theorem str_append (a b : List UInt8) : str a ++ str b = str (a ++ b) := by
  apply ByteArray.ext; apply Array.ext'; simp [str]
theorem str_cons (c : UInt8) (o : ByteArray) : str [c] ++ o = str (c :: bytes o) := by
  conv => lhs; rw [← str_bytes o]
  rw [str_append]; rfl
theorem max_mod_pos (u : Nat) : max ((u : Int) % 10) (-((u : Int) % 10)) = ((u % 10 : Nat) : Int) := by omega
theorem max_mod_neg (u : Nat) : max (-((u : Int) % 10)) ((u : Int) % 10) = ((u % 10 : Nat) : Int) := by omega
theorem whole_text (u : Nat) (o : ByteArray) (l : List UInt8) (hu : u ≠ 0) (h : fz u ++ bytes o = l) : fz (u / 10) ++ bytes (str [digitC (u % 10)] ++ o) = l := by
  rw [str_cons, bytes_str, ← h, fz_step hu, List.append_assoc]; rfl
set_option maxHeartbeats 2000000 in
theorem whole_pos (n : Nat) (w : World) (h0 : 0 < n) (h1 : n < 9223372036854775808) :
    Calls Tryz.prog 113 #[.int .i64 n] w fun e w' => e = .returned (.string (str (Lib.decDigits n))) ∧ w' = w := by
  have t0 : ((n : Int) == 0) = false := by rw [beq_eq_false_iff_ne]; omega
  have hl := decDigits_length_le n 19 (by decide) (by omega)
  generalize hL : Lib.decDigits n = L at *
  obtain ⟨R, hR⟩ : ∃ R, R = str L := ⟨_, rfl⟩
  rw [← hR]
  have HL := Lib.hid hL; have HR := Lib.hid hR; clear hL hR
  go_enter Tryz.func113, Tryz.ntmps113
  go_wp2_with fail
  go_loop [3, 4] (fun sv mv => ∃ (u : Nat) (o : ByteArray), u ≤ n ∧ mv = .int .i64 u ∧ sv = .string o ∧ fz u ++ bytes o = L) (fun _ mv => (intOf mv).toNat)
  case atStart => exact ⟨n, _, Nat.le_refl _, rfl, rfl, by unfold fz; rw [if_neg (by omega), HL.out]; simp [bytes]⟩
  case round =>
    obtain ⟨u, o, hu, rfl, rfl, hd⟩ := hrel
    have ho : o.size ≤ 19 := by have := congrArg List.length hd; rw [List.length_append, bytes_length] at this; omega
    have HD := Lib.hid hd; clear hd
    by_cases hu0 : u = 0
    · subst hu0
      have he : o = R := by rw [HR.out, ← str_bytes o, ← HD.out]; rfl
      subst he
      clear HD HR
      go_wp2
      go_ret
      exact ⟨rfl, rfl⟩
    · have hu1 : ((u : Int) != 0) = true := by simp; omega
      have hu2 : 0 < u := by omega
      have hm := max_mod_pos u
      have hlt : u % 10 < 10 := Nat.mod_lt _ (by decide)
      have hx := ten_at (u % 10) hlt
      have HN := Lib.hid (whole_text u o L hu0 HD.out)
      clear hu0
      generalize hdd : u % 10 = d at *
      have HDD := Lib.hid hdd; clear hdd
      have hs : (str [digitC d]).size = 1 := rfl
      go_wp2
      go_round
      case rel => exact ⟨u / 10, _, by omega, by go_num, rfl, HN.out⟩
      case measure => simp [intOf]; omega
set_option maxHeartbeats 2000000 in
theorem whole_neg (n : Nat) (w : World) (h0 : 0 < n) (h1 : n ≤ 9223372036854775808) :
    Calls Tryz.prog 113 #[.int .i64 (-(n : Int))] w fun e w' => e = .returned (.string (str (45 :: Lib.decDigits n))) ∧ w' = w := by
  have t0 : ((-(n : Int)) == 0) = false := by rw [beq_eq_false_iff_ne]; omega
  have hl := decDigits_length_le n 19 (by decide) (by omega)
  generalize hL : Lib.decDigits n = L at *
  obtain ⟨R, hR⟩ : ∃ R, R = str (45 :: L) := ⟨_, rfl⟩
  rw [← hR]
  have HL := Lib.hid hL; have HR := Lib.hid hR; clear hL hR
  go_enter Tryz.func113, Tryz.ntmps113
  go_wp2_with fail
  go_loop [3, 4] (fun sv mv => ∃ (u : Nat) (o : ByteArray), u ≤ n ∧ mv = .int .i64 (-(u : Int)) ∧ sv = .string o ∧ fz u ++ bytes o = L) (fun _ mv => (-(intOf mv)).toNat)
  case atStart => exact ⟨n, _, Nat.le_refl _, rfl, rfl, by unfold fz; rw [if_neg (by omega), HL.out]; simp [bytes]⟩
  case round =>
    obtain ⟨u, o, hu, rfl, rfl, hd⟩ := hrel
    have ho : o.size ≤ 19 := by have := congrArg List.length hd; rw [List.length_append, bytes_length] at this; omega
    have HD := Lib.hid hd; clear hd
    by_cases hu0 : u = 0
    · subst hu0
      have he : ⟨#[45]⟩ ++ o = R := by
        have := str_cons 45 o
        rw [HR.out, ← HD.out]
        exact this
      have HE := Lib.hid he; clear HD HR he
      go_wp2
      go_ret
      exact ⟨by rw [← HE.out]; rfl, rfl⟩
    · have hu1 : ((-(u : Int)) != 0) = true := by simp; omega
      have hu2 : 0 < u := by omega
      have hm := max_mod_neg u
      have hlt : u % 10 < 10 := Nat.mod_lt _ (by decide)
      have hx := ten_at (u % 10) hlt
      have HN := Lib.hid (whole_text u o L hu0 HD.out)
      clear hu0
      generalize hdd : u % 10 = d at *
      have HDD := Lib.hid hdd; clear hdd
      have hs : (str [digitC d]).size = 1 := rfl
      go_wp2
      go_round
      case rel => exact ⟨u / 10, _, by omega, by go_num, rfl, HN.out⟩
      case measure => simp [intOf]; omega
theorem whole_any (n : Int) (w : World) (h0 : -9223372036854775808 ≤ n) (h1 : n ≤ 9223372036854775807) :
    Calls Tryz.prog 113 #[.int .i64 n] w fun e w' => e = .returned (.string (str (Lib.itoa n))) ∧ w' = w := by
  rcases Int.lt_trichotomy n 0 with h | h | h
  · obtain ⟨m, hm⟩ : ∃ m : Nat, m = n.natAbs := ⟨_, rfl⟩
    have e : n = -(m : Int) := by omega
    rw [itoa_neg h, ← hm, e]
    exact whole_neg m w (by omega) (by omega)
  · subst h
    have hz : str (Lib.itoa 0) = ⟨#[48]⟩ := by rw [itoa_nonneg (by omega)]; show str (Lib.decDigits 0) = _; rw [dec0']; rfl
    rw [hz]
    go_enter Tryz.func113, Tryz.ntmps113
    go_wp2
    go_ret
    exact ⟨rfl, rfl⟩
  · obtain ⟨m, hm⟩ : ∃ m : Nat, m = n.natAbs := ⟨_, rfl⟩
    have e : n = (m : Int) := by omega
    rw [itoa_nonneg (by omega), ← hm, e]
    exact whole_pos m w (by omega) (by omega)
theorem Str.pos {s : ByteArray} {x : Int} (h : Str s x) : 0 < s.size := by
  rcases Nat.eq_zero_or_pos s.size with h0 | h0
  · exfalso
    have h1 : bytes s = [] := List.length_eq_zero_iff.1 h0
    have h2 := canonB_itoa x
    rw [← h.text, h1] at h2
    exact absurd h2 (by decide)
  · exact h0
theorem Str.first {s : ByteArray} {x : Int} (h : Str s x) : decide (byteAt s 0 = 45) = decide (x < 0) := by
  rw [← negB_itoa x, ← h.text]
  have hp := h.pos
  have hl : (bytes s).length = s.size := rfl
  match hb : bytes s, hl with
  | [], hl => simp at hl; omega
  | c :: t, hl =>
    have e0 := byte0 hb
    rw [e0]
    unfold negB Lib.hasPrefix
    rw [Bool.eq_iff_iff, decide_eq_true_eq]
    simp only [List.isPrefixOf, Bool.and_true, beq_iff_eq]
    exact ⟨fun h => (UInt8.toNat_inj.1 (by rw [h]; rfl)).symm, fun h => by rw [← h]; rfl⟩
def nv (s : ByteArray) (p k : Nat) : Nat := dec (((bytes s).take k).drop p)
theorem nv_low (s : ByteArray) {p k : Nat} (h : k ≤ p) : nv s p k = 0 := by
  unfold nv
  rw [List.drop_of_length_le (by rw [List.length_take]; omega)]; rfl
theorem nv_step (s : ByteArray) {p k : Nat} (h : p ≤ k) (hk : k < s.size) : nv s p (k + 1) = 10 * nv s p k + (byteAt s k - 48) := by
  unfold nv byteAt
  have h' : k < (bytes s).length := hk
  rw [List.take_succ_eq_append_getElem h', List.drop_append_of_le_length (by rw [List.length_take]; omega), dec_snoc]
  simp [List.getD_eq_getElem?_getD, List.getElem?_eq_getElem h']
theorem nv_end (s : ByteArray) (p : Nat) : nv s p s.size = dec ((bytes s).drop p) := by
  unfold nv
  rw [List.take_of_length_le (by rw [bytes_length]; exact Nat.le_refl _)]
theorem nv_lt (s : ByteArray) {p k : Nat} (hd : ∀ j, p ≤ j → j < s.size → 48 ≤ byteAt s j ∧ byteAt s j ≤ 57) (hk : k ≤ s.size) (h17 : k ≤ p + 17) : nv s p k < 100000000000000000 := by
  induction k generalizing p with
  | zero => rw [nv_low s (by omega)]; decide
  | succ k ih =>
    unfold nv
    refine Nat.lt_of_lt_of_le (dec_lt ?_) (show 10 ^ _ ≤ _ from Nat.le_trans (Nat.pow_le_pow_right (by decide) (show _ ≤ 17 by rw [List.length_drop, List.length_take]; omega)) (by decide))
    intro c hc
    obtain ⟨i, hi, rfl⟩ := List.mem_iff_getElem.1 hc
    rw [List.length_drop, List.length_take, bytes_length] at hi
    have h2 := hd (p + i) (by omega) (by omega)
    rw [List.getElem_drop, List.getElem_take]
    exact (isDig_byte s (p + i) (by omega)).trans (by simp [h2.1, h2.2])
set_option maxHeartbeats 2000000 in
theorem number_any (s : ByteArray) (z : Int) (w : World) (h : bytes s = Lib.itoa z) (hlen : (Lib.decDigits z.natAbs).length ≤ 18) :
    Calls Tryz.prog 115 #[.string s] w fun e w' => e = .returned (.int .i64 z) ∧ w' = w := by
  have hdig := txt_dig h
  have hsz := txt_len h
  have h0 := txt_size h
  have hng := txt_neg h
  have CN := fun W => negative_any s W h0
  have hend := nv_end s (if z < 0 then 1 else 0)
  rw [txt_drop h, dec_decDigits] at hend
  rw [hng] at CN
  have hz : z.natAbs < 1000000000000000000 := by
    have h1 := dec_lt (allDig_decDigits z.natAbs)
    rw [dec_decDigits] at h1
    exact Nat.lt_of_lt_of_le h1 (Nat.le_trans (Nat.pow_le_pow_right (by decide) hlen) (by decide))
  obtain ⟨p, hp⟩ : ∃ p : Nat, p = if z < 0 then 1 else 0 := ⟨_, rfl⟩
  rw [← hp] at hdig hsz hend
  have h45 : z < 0 → byteAt s 0 = 45 := fun a => by rw [decide_eq_true a, decide_eq_true_eq] at hng; exact hng
  have hp1 : p ≤ 1 := by rw [hp]; split <;> omega
  have hp2 : p = 1 → byteAt s 0 = 45 := fun a => h45 (by rw [hp] at a; by_cases hz : z < 0; exact hz; rw [if_neg hz] at a; cases a)
  have hs18 : s.size ≤ p + 18 := by omega
  have hlt : ∀ k, k < s.size → nv s p k < 100000000000000000 := fun k hk => nv_lt s hdig (by omega) (by omega)
  have hst : ∀ k, p ≤ k → k < s.size → nv s p (k + 1) = 10 * nv s p k + (byteAt s k - 48) := fun k a b => nv_step s a b
  have hlo : ∀ k, k ≤ p → nv s p k = 0 := fun k a => nv_low s a
  have H1 := Lib.hid hdig; have H2 := Lib.hid hend; have H3 := Lib.hid hlt; have H4 := Lib.hid hst; have H5 := Lib.hid hlo; have H6 := Lib.hid hp2; have KC := Lib.hid CN; have HP := Lib.hid hp
  clear hdig hend hlt hst hlo hp2 CN h45 hng hp h hlen hsz
  go_enter Tryz.func115, Tryz.ntmps115
  go_wp2_with fail
  go_loop [3, 4] (fun nvv iv => ∃ k : Nat, k ≤ s.size ∧ iv = .int .i64 k ∧ nvv = .int .i64 (nv s p k : Nat)) (fun _ iv => s.size - (intOf iv).toNat)
  case atStart => exact ⟨0, Nat.zero_le _, rfl, by rw [H5.out 0 (Nat.zero_le _)]; rfl⟩
  case round =>
    obtain ⟨k, hk, rfl, rfl⟩ := hrel
    by_cases hks : k < s.size
    · have gk := byteAt_get s k hks
      by_cases hkp : k < p
      · have hk0 : k = 0 := by omega
        have hp1' : p = 1 := by omega
        subst hk0
        have hb := H6.out hp1'
        rw [hb] at gk
        have e1 := H5.out 0 (Nat.zero_le _)
        have e2 := H5.out 1 (by omega)
        have E1 := Lib.hid (e1.trans e2.symm)
        clear e1 e2 hb hkp hp1'
        generalize nv s p 0 = q at *
        go_wp2
        go_round
        case rel => exact ⟨1, by omega, rfl, by rw [E1.out]⟩
        case measure => simp [intOf]; omega
      · obtain ⟨hd1, hd2⟩ := H1.out k (by omega) hks
        have hst := H4.out k (by omega) hks
        have hl := H3.out k hks
        have HST := Lib.hid hst; clear hst
        generalize nv s p k = q at *
        generalize byteAt s k = b at *
        have hneq : ((b : Int) != 45) = true := by simp; omega
        go_wp2
        go_round
        case rel => exact ⟨k + 1, by omega, by go_num, by rw [HST.out]; go_num⟩
        case measure => simp [intOf]; omega
    · have hkn : k = s.size := by omega
      subst hkn
      have he := H2.out
      generalize nv s p s.size = q at *
      subst he
      by_cases hz0 : z < 0
      · rw [decide_eq_true hz0] at KC
        obtain ⟨m, hm⟩ : ∃ m : Nat, m = z.natAbs := ⟨_, rfl⟩
        have hzm : z = -(m : Int) := by omega
        rw [← hm] at hz ⊢
        have HZ := Lib.hid hzm; clear hzm hm hz0
        go_wp2_with (go_at_call 94; refine (KC.out _).mono ?_; rintro e w1 ⟨rfl, h⟩; subst h; refine Hid.out ?_)
        refine Lib.hid ?_
        go_wp2
        go_ret
        exact ⟨ret_int HZ.out.symm, rfl⟩
      · rw [decide_eq_false hz0] at KC
        obtain ⟨m, hm⟩ : ∃ m : Nat, m = z.natAbs := ⟨_, rfl⟩
        have hzm : z = (m : Int) := by omega
        rw [← hm] at hz ⊢
        have HZ := Lib.hid hzm; clear hzm hm hz0
        go_wp2_with (go_at_call 94; refine (KC.out _).mono ?_; rintro e w1 ⟨rfl, h⟩; subst h; refine Hid.out ?_)
        refine Lib.hid ?_
        go_wp2
        go_ret
        exact ⟨ret_int HZ.out.symm, rfl⟩
theorem shortT (s : ByteArray) (z : Int) (n : Nat) (w : World) (h : bytes s = Lib.itoa z) (hs : s.size ≤ 1000000000000) (_hn : n ≤ 1000000) :
    Calls Tryz.prog 112 #[.string s, .int .i64 n] w fun e w' => e = .returned (.bool (decide ((Lib.decDigits z.natAbs).length ≤ n))) ∧ w' = w := by
  have C := fun W => refDigits_any s W (txt_size h) (by omega)
  rw [h, digL_itoa] at C
  generalize (Lib.decDigits z.natAbs).length = d at *
  have KC := Lib.hid C; clear C
  go_enter Tryz.func112, Tryz.ntmps112
  go_wp2_with (go_at_call 63; refine (KC.out _).mono ?_; rintro e w1 ⟨rfl, h⟩; subst h; refine Hid.out ?_)
  refine Lib.hid ?_
  go_wp2
  go_ret
  first | exact ⟨rfl, rfl⟩ | exact ⟨ret_bool (by rw [Bool.eq_iff_iff]; simp), rfl⟩
theorem DV.bound {w : World} {v : Value} {l : List Nat} (h : DV w v l) : l.length ≤ 9223372036854775807 := by
  obtain ⟨ao, c, rfl, hr⟩ := h
  exact Nat.le_trans hr.1 hr.2.1
theorem ownsRow_drewN {w : World} {B n size : Nat} {e : TypeId} {v : Value} {xs : List Value} (h : w.ownsRow B e size v n xs) (q : Nat) : (w.drewN q).ownsRow B e size v n xs := h
set_option maxHeartbeats 1000000 in
theorem at_any (l : List Nat) (v : Value) (i : Nat) (w : World) (hv : DV w v l) (_hi : i ≤ 9223372036854775807) :
    Calls Tryz.prog 165 #[v, .int .i64 i] w fun e w' => e = .returned (.int .i64 (l.getD i 0 : Nat)) ∧ w' = w := by
  have hb := hv.bound
  obtain ⟨ao, c, rfl, hr⟩ := hv
  by_cases h : i < l.length
  · obtain ⟨b, off, rfl⟩ := hr.addr (fun e => by rw [e] at h; simp at h)
    have hc := hr.get i h
    have h2 := hr.1; have h3 := hr.2.1
    generalize l.getD i 0 = d at *
    generalize l.length = n at *
    clear hr
    go_enter Tryz.func165, Tryz.ntmps165
    go_wp2
    go_ret
    exact ⟨rfl, rfl⟩
  · rw [getD_ge l i (by omega)]
    generalize l.length = n at *
    clear hr
    go_enter Tryz.func165, Tryz.ntmps165
    go_wp2
    go_ret
    exact ⟨rfl, rfl⟩
structure PlusInv (x y s : List Nat) (i c : Nat) : Prop where
  len : s.length = i
  dg : Dg s
  carry : c ≤ 1
  eq : dv s + c * 10 ^ i = dv (x.take i) + dv (y.take i)
theorem PlusInv.start (x y : List Nat) : PlusInv x y [] 0 0 := ⟨rfl, Dg.nil, by omega, by simp [dv]⟩
theorem PlusInv.step {x y s : List Nat} {i c : Nat} (h : PlusInv x y s i c) (hx : Dg x) (hy : Dg y) :
    PlusInv x y (s ++ [(c + (x.getD i 0 + y.getD i 0)) % 10]) (i + 1) ((c + (x.getD i 0 + y.getD i 0)) / 10) := by
  have h1 := hx.getD i; have h2 := hy.getD i; have h3 := h.carry
  refine ⟨by simp [h.len], h.dg.append (Dg.cons (Nat.mod_lt _ (by decide)) Dg.nil), by omega, ?_⟩
  rw [dv_append, h.len, dv_take_getD, dv_take_getD]
  have h4 := h.eq
  have h5 := Nat.div_add_mod (c + (x.getD i 0 + y.getD i 0)) 10
  generalize (c + (x.getD i 0 + y.getD i 0)) / 10 = q at *
  generalize (c + (x.getD i 0 + y.getD i 0)) % 10 = r at *
  rw [Nat.pow_succ]
  simp only [dv]
  generalize 10 ^ i = p at *
  have e1 : p * (r + 10 * 0) + q * (p * 10) = (10 * q + r) * p := by grind
  have e2 : (c + (x.getD i 0 + y.getD i 0)) * p = x.getD i 0 * p + c * p + y.getD i 0 * p := by grind
  rw [h5, e2] at e1
  omega
theorem PlusInv.done {x y s : List Nat} {i c : Nat} (h : PlusInv x y s (i + 1) c) (hx : Dg x) (hy : Dg y) (hlx : x.length ≤ i) (hly : y.length ≤ i) : dv s = dv x + dv y := by
  have h4 := h.eq
  rw [List.take_of_length_le (by omega), List.take_of_length_le (by omega)] at h4
  have h1 := dv_lt hx; have h2 := dv_lt hy
  have p1 : (10 : Nat) ^ x.length ≤ 10 ^ i := Nat.pow_le_pow_right (by decide) hlx
  have p2 : (10 : Nat) ^ y.length ≤ 10 ^ i := Nat.pow_le_pow_right (by decide) hly
  rw [Nat.pow_succ] at h4
  have h3 := h.carry
  have hc : c = 0 := by
    rcases Nat.eq_zero_or_pos c with h0 | h0
    · exact h0
    · exfalso
      have : c = 1 := by omega
      subst this
      generalize (10 : Nat) ^ i = p at *
      omega
  subst hc
  omega
theorem mod_cell (c x y : Nat) : dcellsOf [(c + (x + y)) % 10] = [.int .i64 (((c : Int) + ((x : Int) + (y : Int))) % 10)] := by
  show [Value.int .i64 (((c + (x + y)) % 10 : Nat) : Int)] = _
  rw [show (((c + (x + y)) % 10 : Nat) : Int) = ((c : Int) + ((x : Int) + (y : Int))) % 10 by omega]
set_option maxHeartbeats 4000000 in
theorem refPlus_any (X Y : List Nat) (vx vy : Value) (w : World) (hx : DV w vx X) (hy : DV w vy Y) (hX : Dg X) (hY : Dg Y) (hlx : X.length ≤ 1000000000) (hly : Y.length ≤ 1000000000) :
    Calls Tryz.prog 143 #[vx, vy] w (DRet (nl (dv X + dv Y)) w) := by
  obtain ⟨i0, hi, hz0, hz1, hz2⟩ := info_parts dinfoU32
  have A1 : ∀ i : Nat, i ≤ 9223372036854775807 → ∀ W, Below w.heap.size w W → Calls Tryz.prog 165 #[vx, .int .i64 i] W fun e w' => e = .returned (.int .i64 (X.getD i 0 : Nat)) ∧ w' = W := fun i hi W hW => at_any X vx i W (hx.mono hW) hi
  have A2 : ∀ i : Nat, i ≤ 9223372036854775807 → ∀ W, Below w.heap.size w W → Calls Tryz.prog 165 #[vy, .int .i64 i] W fun e w' => e = .returned (.int .i64 (Y.getD i 0 : Nat)) ∧ w' = W := fun i hi W hW => at_any Y vy i W (hy.mono hW) hi
  have hdX := fun i => hX.getD i
  have hdY := fun i => hY.getD i
  have hst : ∀ (s : List Nat) (i c : Nat), PlusInv X Y s i c → PlusInv X Y (s ++ [(c + (X.getD i 0 + Y.getD i 0)) % 10]) (i + 1) ((c + (X.getD i 0 + Y.getD i 0)) / 10) := fun s i c h => h.step hX hY
  have hdn : ∀ (s : List Nat) (i c : Nat), PlusInv X Y s (i + 1) c → X.length ≤ i → Y.length ≤ i → dv s = dv X + dv Y := fun s i c h a b => h.done hX hY a b
  have hs0 := PlusInv.start X Y
  obtain ⟨ao, cx, rfl, -⟩ := hx
  obtain ⟨ap, cy, rfl, -⟩ := hy
  have CC : ∀ (S : List Nat) (v : Value) (W : World), DV W v S → Dg S → S.length ≤ 1000000000000 → Calls Tryz.prog 117 #[v] W fun e w' => ∃ v', e = .returned v' ∧ DV W v' (nl (dv S)) ∧ w' = W := fun S v W h1 h2 h3 => cut_any S v W h1 h2 h3
  generalize X.length = n at *
  generalize Y.length = m at *
  obtain ⟨M, hM⟩ : ∃ M : Nat, M = max n m := ⟨_, rfl⟩
  have hM1 : n ≤ M := by omega
  have hM2 : m ≤ M := by omega
  have hM3 : M ≤ 1000000000 := by omega
  have hmx : max (n : Int) (m : Int) = (M : Int) := by omega
  have KA1 := Lib.hid A1; have KA2 := Lib.hid A2; have KX := Lib.hid hdX; have KY := Lib.hid hdY; have KST := Lib.hid hst; have KDN := Lib.hid hdn; have KS0 := Lib.hid hs0; have KC := Lib.hid CC
  have HM := Lib.hid hM; clear hM
  clear A1 A2 hdX hdY hst hdn hs0 CC hX hY
  go_enter Tryz.func143, Tryz.ntmps143
  go_wp2_with fail
  go_loopw [5, 6, 7] (fun v cv iv wr => ∃ (i c : Nat) (S : List Nat), i ≤ M + 1 ∧ iv = .int .i64 i ∧ cv = .int .i64 c ∧ PlusInv X Y S i c ∧ wr.ownsRow w.heap.size 3 1 v S.length (dcellsOf S) ∧ Below w.heap.size w wr) (fun _ _ iv _ => M + 1 - (intOf iv).toNat)
  case atStart => exact ⟨0, 0, [], by omega, rfl, rfl, KS0.out, World.ownsRow_nil _ _ _ _, Below.refl _ _⟩
  case round =>
    obtain ⟨i, c, S, hi1, rfl, rfl, hinv, hown, hbw⟩ := hrel
    have hc := hinv.carry
    have hln := hinv.len
    have HI := Lib.hid hinv; have HL := Lib.hid hln; clear hinv hln
    by_cases hlt : i < M + 1
    · have t1 : decide ((i : Int) < (M : Int) + 1) = true := decide_eq_true (by omega)
      have hx9 := KX.out i; have hy9 := KY.out i
      have a1 := KA1.out i (by omega); have a2 := KA2.out i (by omega)
      have hstp := KST.out S i c HI.out
      have hSl : S.length ≤ 1000000001 := by rw [HL.out]; omega
      generalize X.getD i 0 = xd at *
      generalize Y.getD i 0 = yd at *
      have A1 := Lib.hid a1; have A2 := Lib.hid a2; have HST := Lib.hid hstp
      clear a1 a2 hstp
      go_wp2_with (go_at_call 165; refine (A1.out _ hbw).mono ?_; rintro e w1 ⟨rfl, h⟩; subst h; refine Hid.out ?_)
      refine Lib.hid ?_
      go_wp2_with (go_at_call 165; refine (A2.out _ hbw).mono ?_; rintro e w1 ⟨rfl, h⟩; subst h; refine Hid.out ?_)
      refine Lib.hid ?_
      go_wp2_with (at_builtin; refine wpList_append_own _ rfl _ _ 64 rfl w.heap.size 3 i0 (.int .i64 0) 1 8 Tryz.underlying64 hi hz0 hz1 hz2 rfl (by decide) _ _ _ rfl (hown.alloc _) ⟨w1.heap.size, 0, none⟩ 1 1 [.int .i64 (((c : Int) + ((xd : Int) + (yd : Int))) % 10)] rfl rfl ?c1 ?c2 ?c3 ?c4 ?c5 ?_)
      case c1 => intro j u hj; match j, hj with | 0, hj => (simp at hj; subst hj; simp [Addr.add])
      case c2 => intro u hu; simp at hu; subst hu; rfl
      case c3 => unfold maxLen; omega
      case c4 => omega
      case c5 => have := hbw.size; simp; omega
      intro v' w2 hown' hgrow _
      go_wp2
      go_roundw
      case rel =>
        refine ⟨i + 1, (c + (xd + yd)) / 10, S ++ [(c + (xd + yd)) % 10], by omega, by go_num, by go_num, HST.out, ?_, ?_⟩
        · rw [dcellsOf_append, mod_cell, List.length_append]; exact hown'
        · exact hbw.trans (((Below.refl _ _).alloc (by have := hbw.size; omega) _).grown hgrow (by have := hbw.size; simp; omega) (fun k hk => ((hown.lt k hk)).1))
      case measure => simp [intOf]; omega
    · have hiM : i = M + 1 := by omega
      have t1 : decide ((i : Int) < (M : Int) + 1) = false := decide_eq_false (by omega)
      have HIM := Lib.hid hiM; clear hlt
      have hd := KDN.out S M c (by have := HI.out; rwa [hiM] at this) hM1 hM2
      have hg := HI.out.dg
      obtain ⟨ar, cr, rfl, hr⟩ := drow_of_owns hown
      have hc0 := KC.out S _ _ ⟨ar, cr, rfl, hr⟩ hg (by rw [HL.out]; omega)
      rw [hd] at hc0
      have K := Lib.hid hc0; have HB := Lib.hid hbw
      clear hd hg hr hc0 hown hbw hiM
      go_wp2_with (go_at_call 117; refine K.out.mono ?_; rintro e w1 ⟨v1, rfl, hv1, h⟩; subst h; refine Hid.out ?_)
      refine Lib.hid ?_
      go_wp2
      go_ret
      exact ⟨_, rfl, hv1, HB.out⟩
end Go.Proofs.YtjobmkdaaionlaaGreatDoor
