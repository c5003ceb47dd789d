import Derived.Deep.RegionHeld3
import Derived.Test.YtbadibbdoljjhaaGreatDoorCut4
import Derived.Test.YtbadibbdoljjhaaGreatDoorOwnGcdN
import Derived.Test.YtbadibbdoljjhaaGreatDoorCut13
import Derived.Test.YtbadibbdoljjhaaGreatDoorCut1
import Derived.Test.YtbadibbdoljjhaaGreatDoorCut5

set_option linter.unusedVariables false
/-
  bigint.compute of Gcd, for long integers. (made by tools/comp.py)
-/
namespace Go.Proofs.YtbadibbdoljjhaaGreatDoor
open Go Go.Proofs Go.RowKit Go.Sort

theorem keepSGcd {W w1 w2 : World} {a : Addr} {v : Value} (hlt : a.block < W.heap.size) (h : w1.cell? a = some v ∧ Below W.heap.size W w1) (hb : Below w1.heap.size w1 w2) : w2.cell? a = some v ∧ Below W.heap.size W w2 :=
  ⟨(hb.cell (Nat.lt_of_lt_of_le hlt h.2.size)).trans h.1, Below.chain h.2 hb⟩

set_option maxHeartbeats 4000000 in
theorem compGcd_long (s t : ByteArray) (x y r : Int) (w : World) (hs : Str s x) (ht : Str t y) (hxy : ¬ (x.natAbs < 1000000000 ∧ y.natAbs < 1000000000)) (hr : (limbs r.natAbs).length ≤ 1000000000000)
    (HL : ∀ (W : World) (v1 v2 : Value), IntAt W v1 x → IntAt W v2 y → Calls Tryz.prog 83 #[v1, v2] W fun e w' => ∃ v, e = .returned v ∧ IntAt w' v r ∧ Below W.heap.size W w')
    (htab : Lib.TabIs Tryz.prog w "internal/strconv.uint64pow10" .u64 Lib.pow10Tab) :
    Calls Tryz.prog 81 #[opV 82 83, .string s, .string t] w fun e w' =>
      e = .returned (if 4096 < (Lib.decDigits r.natAbs).length then .tuple #[.string ⟨#[]⟩, .int .i64 10] else .tuple #[.string (str (Lib.itoa r)), .int .i64 0]) ∧ Below w.heap.size w w' := by
  have hsz := hs.size
  have htz := ht.size
  have CB := fun W => checkBoth_any s t W (by omega) (by omega)
  have hb : errBoth (bytes s) (bytes t) = 0 := by unfold errBoth; rw [if_pos hs.err, ht.err]
  rw [hb] at CB
  obtain ⟨bs, bt, hbs, hbt, hbb⟩ : ∃ bs bt : Bool, decide ((digL (bytes s)).length ≤ 9) = bs ∧ decide ((digL (bytes t)).length ≤ 9) = bt ∧ ¬ (bs = true ∧ bt = true) := by
    refine ⟨_, _, rfl, rfl, fun ⟨h1, h2⟩ => hxy ⟨?_, ?_⟩⟩
    · exact Decidable.byContradiction fun h => by rw [hs.notShort h] at h1; cases h1
    · exact Decidable.byContradiction fun h => by rw [ht.notShort h] at h2; cases h2
  have IS := fun W => isShort_any s W (by omega)
  have IT := fun W => isShort_any t W (by omega)
  rw [hbs] at IS
  rw [hbt] at IT
  have PS := fun W => parseZ_any s x W hs.text (by omega)
  have PT := fun W => parseZ_any t y W ht.text (by omega)
  have TX : ∀ (W : World) (v : Value), Below w.heap.size w W → IntAt W v r → Calls Tryz.prog 93 #[v] W fun e w' => e = .returned (.string (str (Lib.itoa r))) ∧ Below W.heap.size W w' := fun W v hW hv =>
    textZ_any r v W hv hr ((Lib.tabBelow_of_tabIs htab).on hW).here
  have LG := fun W => isLong_any (str (Lib.itoa r)) W (by
    rw [str_size]
    have h1 := decDigits_limbs r.natAbs
    by_cases hz : r < 0
    · rw [itoa_neg hz]; simp; omega
    · rw [itoa_nonneg hz]; omega)
  rw [bytes_str, digL_itoa] at LG
  have HCB := Lib.hid CB; have HIS := Lib.hid IS; have HIT := Lib.hid IT; have HPS := Lib.hid PS; have HPT := Lib.hid PT; have HTX := Lib.hid TX; have HHL := Lib.hid HL; have HLG := Lib.hid LG
  clear CB IS IT PS PT TX HL LG hb htab hs ht hxy hr hbs hbt
  generalize str (Lib.itoa r) = rs at *
  generalize hlong : decide (4096 < (Lib.decDigits r.natAbs).length) = lg at *
  have hres : (if 4096 < (Lib.decDigits r.natAbs).length then Value.tuple #[.string ⟨#[]⟩, .int .i64 10] else .tuple #[.string rs, .int .i64 0]) = if lg = true then .tuple #[.string ⟨#[]⟩, .int .i64 10] else .tuple #[.string rs, .int .i64 0] := by
    rw [← hlong]; simp
  rw [hres]
  clear hres hlong
  unfold opV
  have B0 : Below w.heap.size w (w.alloc (Obj.cells #[.func (.func 82) #[] #[], .func (.func 83) #[] #[]] 87)) := (Below.refl _ _).alloc (Nat.le_refl _) _
  have c0 : (w.alloc (Obj.cells #[.func (.func 82) #[] #[], .func (.func 83) #[] #[]] 87)).cell? ⟨w.heap.size, 1, none⟩ = some (.func (.func 83) #[] #[]) := by go_cell
  have s0 : w.heap.size < (w.alloc (Obj.cells #[.func (.func 82) #[] #[], .func (.func 83) #[] #[]] 87)).heap.size := by simp
  have key : ∀ W : World, Below w.heap.size w W → W.cell? ⟨w.heap.size, 1, none⟩ = some (.func (.func 83) #[] #[]) → w.heap.size < W.heap.size → True := fun _ _ _ _ => trivial
  clear key
  cases bs
  · go_enter Tryz.func81, Tryz.ntmps81
    go_wp2_with (go_at_call 90; refine (HCB.out _).mono ?_; rintro e w1 ⟨rfl, rfl⟩; refine Hid.out ?_)
    refine Lib.hid ?_
    go_wp2_with (go_at_call 133; refine (HIS.out _).mono ?_; rintro e w1 ⟨rfl, rfl⟩; refine Hid.out ?_)
    refine Lib.hid ?_
    go_wp2_with fail
    generalize w.alloc (Obj.cells #[.func (.func 82) #[] #[], .func (.func 83) #[] #[]] 87) = W at *
    have HB := Lib.hid B0; clear B0
    go_region_held3 (fun w' => w'.cell? ⟨w.heap.size, 1, none⟩ = some (.func (.func 83) #[] #[]) ∧ Below W.heap.size W w') (first | exact keepSGcd (a := ⟨w.heap.size, 1, none⟩) s0 ⟨c0, Below.refl _ _⟩ ((Below.refl _ _).drew) | (refine keepSGcd (a := ⟨w.heap.size, 1, none⟩) s0 ?_ (by assumption); assumption)) (first
      | (go_at_call_of 92 s; refine (HPS.out _).mono ?_; rintro e w4 ⟨v4, rfl, hv4, hb4⟩)
      | (go_at_call_of 92 t; refine (HPT.out _).mono ?_; rintro e w5 ⟨v5, rfl, hv5, hb5⟩)
      | (go_at_call 83; refine (HHL.out _ _ _ (hv4.mono hb5) hv5).mono ?_; rintro e w6 ⟨v6, rfl, hv6, hb6⟩)
      | (go_at_call 93; refine (HTX.out _ _ (Below.chain HB.out (Below.chain (Below.chain ((Below.refl _ _).drew) hb4) (Below.chain hb5 hb6))) hv6).mono ?_; rintro e w7 ⟨rfl, hb7⟩))
    all_goals
      have hbF := Below.chain HB.out (Below.chain (Below.chain ((Below.refl W.heap.size W).drew) hb4) (Below.chain hb5 (Below.chain hb6 hb7)))
      clear hb4 hb5 hb6 hb7 hv4 hv5 hv6 c0 s0
      go_wp2_with (go_at_call 132; refine (HLG.out _).mono ?_; rintro e w8 ⟨rfl, rfl⟩; refine Hid.out ?_)
      refine Lib.hid ?_
      cases lg
      · go_wp2
        refine bodyPost_ret (by simp [results, Tryz.results81, go_sem]; rfl) rfl ?_
        exact ⟨rfl, hbF⟩
      · go_wp2
        refine bodyPost_ret (by simp [results, Tryz.results81, go_sem]; rfl) rfl ?_
        exact ⟨rfl, hbF⟩
  · have hbt : bt = false := by cases bt <;> simp_all
    subst hbt
    clear hbb
    go_enter Tryz.func81, Tryz.ntmps81
    go_wp2_with (go_at_call 90; refine (HCB.out _).mono ?_; rintro e w1 ⟨rfl, rfl⟩; refine Hid.out ?_)
    refine Lib.hid ?_
    go_wp2_with (go_at_call 133; refine (HIS.out _).mono ?_; rintro e w1 ⟨rfl, rfl⟩; refine Hid.out ?_)
    refine Lib.hid ?_
    go_wp2_with (go_at_call 133; refine (HIT.out _).mono ?_; rintro e w1 ⟨rfl, rfl⟩; refine Hid.out ?_)
    refine Lib.hid ?_
    go_wp2_with fail
    generalize w.alloc (Obj.cells #[.func (.func 82) #[] #[], .func (.func 83) #[] #[]] 87) = W at *
    have HB := Lib.hid B0; clear B0
    go_region_held3 (fun w' => w'.cell? ⟨w.heap.size, 1, none⟩ = some (.func (.func 83) #[] #[]) ∧ Below W.heap.size W w') (first | exact keepSGcd (a := ⟨w.heap.size, 1, none⟩) s0 ⟨c0, Below.refl _ _⟩ ((Below.refl _ _).drew) | (refine keepSGcd (a := ⟨w.heap.size, 1, none⟩) s0 ?_ (by assumption); assumption)) (first
      | (go_at_call_of 92 s; refine (HPS.out _).mono ?_; rintro e w4 ⟨v4, rfl, hv4, hb4⟩)
      | (go_at_call_of 92 t; refine (HPT.out _).mono ?_; rintro e w5 ⟨v5, rfl, hv5, hb5⟩)
      | (go_at_call 83; refine (HHL.out _ _ _ (hv4.mono hb5) hv5).mono ?_; rintro e w6 ⟨v6, rfl, hv6, hb6⟩)
      | (go_at_call 93; refine (HTX.out _ _ (Below.chain HB.out (Below.chain (Below.chain ((Below.refl _ _).drew) hb4) (Below.chain hb5 hb6))) hv6).mono ?_; rintro e w7 ⟨rfl, hb7⟩))
    all_goals
      have hbF := Below.chain HB.out (Below.chain (Below.chain ((Below.refl W.heap.size W).drew) hb4) (Below.chain hb5 (Below.chain hb6 hb7)))
      clear hb4 hb5 hb6 hb7 hv4 hv5 hv6 c0 s0
      go_wp2_with (go_at_call 132; refine (HLG.out _).mono ?_; rintro e w8 ⟨rfl, rfl⟩; refine Hid.out ?_)
      refine Lib.hid ?_
      cases lg
      · go_wp2
        refine bodyPost_ret (by simp [results, Tryz.results81, go_sem]; rfl) rfl ?_
        exact ⟨rfl, hbF⟩
      · go_wp2
        refine bodyPost_ret (by simp [results, Tryz.results81, go_sem]; rfl) rfl ?_
        exact ⟨rfl, hbF⟩
end Go.Proofs.YtbadibbdoljjhaaGreatDoor

/-
  bigint: commonDivisor, Gcd.
-/
namespace Go.Proofs.YtbadibbdoljjhaaGreatDoor
open Go Go.Proofs Go.RowKit

set_option maxHeartbeats 1000000 in
theorem commonDivisorZ (x y : Int) (va vb : Value) (w : World) (ha : IntAt w va x) (hb : IntAt w vb y) (hlx : (limbs x.natAbs).length ≤ 10000000000) (hly : (limbs y.natAbs).length ≤ 10000000000) :
    Calls Tryz.prog 83 #[va, vb] w fun e w' => ∃ v', e = .returned v' ∧ IntAt w' v' ((Int.gcd x y : Nat) : Int) ∧ Below w.heap.size w w' := by
  have hC : ∀ (v1 v2 : Value), NumAt w v1 x.natAbs → NumAt w v2 y.natAbs → ∀ W : World, Below w.heap.size w W → Calls Tryz.prog 138 #[v1, v2] W (RetN (Int.gcd x y) W) := fun v1 v2 h1 h2 W hW => gcdN_any x.natAbs y.natAbs v1 v2 W (h1.mono hW) (h2.mono hW) hlx hly
  obtain ⟨ao, c, rfl, hra⟩ := ha
  obtain ⟨ap, d, rfl, hrb⟩ := hb
  have C := hC _ _ ⟨ao, c, rfl, hra⟩ ⟨ap, d, rfl, hrb⟩
  have P : ∀ (W : World) (v : Value), NumAt W v (Int.gcd x y) → Calls Tryz.prog 137 #[v] W fun e w' => ∃ v', e = .returned v' ∧ IntAt w' v' ((Int.gcd x y : Nat) : Int) ∧ Below W.heap.size W w' := fun W v h => plus_any _ v W h
  clear hra hrb hC
  have HC := Lib.hid C; have HP := Lib.hid P
  clear C P hlx hly
  generalize (limbs x.natAbs).length = n at *
  generalize (limbs y.natAbs).length = m at *
  generalize decide (x < 0) = ba at *
  generalize decide (y < 0) = bb at *
  generalize ((Int.gcd x y : Nat) : Int) = z at *
  have R0 := rbox3_new w ba bb ao ap n c m d
  go_enter Tryz.func83, Tryz.ntmps83
  go_wp2_with (go_at_call 138; refine (HC.out _ R0.below).mono ?_; rintro e w1 ⟨v1, rfl, hv1, hb1⟩; refine Hid.out ?_)
  have R1 := R0.mono hb1
  refine Lib.hid ?_
  go_wp2_with (go_at_call 137; refine (HP.out _ _ hv1).mono ?_; rintro e w2 ⟨v2, rfl, hv2, hb2⟩; refine Hid.out ?_)
  have R2 := R1.mono hb2
  obtain ⟨a2, c2, rfl, hr2⟩ := hv2.open
  clear R0 R1 hb1 hb2 hv1 hv2
  have k1 := R2.r0; have k2 := R2.r1; have k3 := R2.f0; have k4 := R2.f1
  obtain ⟨hI, hS⟩ := IntAt.stored (w := w) (by omega : w.heap.size ≤ w.heap.size + 1 + 1) R2 hr2
  have q0 := hS.q0; have q1 := hS.q1; have hbF := hS.below
  have HI := Lib.hid hI
  clear hI hS hr2
  refine Lib.hid ?_
  go_wp2
  refine bodyPost_ret (v := .agg #[.bool (sgn z), .slice a2 (lenZ z) c2]) (by simp [results, Tryz.results83, go_sem, q0, q1]) rfl ?_
  exact ⟨_, rfl, HI.out, hbF⟩

theorem gcd_digits {s t : ByteArray} {x y : Int} (hs : Str s x) (ht : Str t y) : ((Int.gcd x y : Nat) : Int).natAbs < 10 ^ 4096 := by
  rw [Int.natAbs_natCast]
  obtain ⟨k, hk⟩ : ∃ k : Nat, k = 4096 := ⟨_, rfl⟩
  rw [← hk]
  exact gcd_le x y (10 ^ k) (hs.lt (by omega)) (ht.lt (by omega))
theorem gcd_limbs {s t : ByteArray} {x y : Int} (hs : Str s x) (ht : Str t y) : (limbs ((Int.gcd x y : Nat) : Int).natAbs).length ≤ 911 := by
  obtain ⟨k, hk⟩ : ∃ k : Nat, k = 4096 := ⟨_, rfl⟩
  refine limbs_of_pow (k := k + k) ?_ (by omega)
  have h := gcd_digits hs ht
  rw [← hk] at h
  exact Nat.lt_of_lt_of_le h (Nat.pow_le_pow_right (by decide) (by omega))

theorem compGcd (s t : ByteArray) (x y : Int) (w : World) (hs : Str s x) (ht : Str t y) (htab : Lib.TabIs Tryz.prog w "internal/strconv.uint64pow10" .u64 Lib.pow10Tab) :
    Calls Tryz.prog 81 #[opV 82 83, .string s, .string t] w fun e w' => e = .returned (resV ((Int.gcd x y : Nat) : Int)) ∧ Below w.heap.size w w' := by
  by_cases h : x.natAbs < 1000000000 ∧ y.natAbs < 1000000000
  · have hg := gcd_le x y 1000000000 h.1 h.2
    have := compGcd_short s t x y ((Int.gcd x y : Nat) : Int) w hs ht h.1 h.2 (by omega) (by omega) (fun W => gcdS x y W h.1 h.2) htab
    rwa [← resV_small (r := ((Int.gcd x y : Nat) : Int)) (by omega)] at this
  · exact compGcd_long s t x y ((Int.gcd x y : Nat) : Int) w hs ht h (by have := gcd_limbs hs ht; omega) (fun W v1 v2 h1 h2 => commonDivisorZ x y v1 v2 W h1 h2 (by have := hs.limbs; omega) (by have := ht.limbs; omega)) htab

set_option maxHeartbeats 1000000 in
theorem gcdZ (s t : ByteArray) (x y : Int) (w : World) (hs : Str s x) (ht : Str t y) (htab : Lib.TabIs Tryz.prog w "internal/strconv.uint64pow10" .u64 Lib.pow10Tab) :
    Calls Tryz.prog 19 #[.string s, .string t] w fun e w' => e = .returned (resV ((Int.gcd x y : Nat) : Int)) ∧ Below w.heap.size w w' := by
  have C := compGcd s t x y w hs ht htab
  obtain ⟨a, e0, hr⟩ := resV_parts ((Int.gcd x y : Nat) : Int)
  rw [hr] at C ⊢
  clear hr hs ht htab
  unfold opV at C
  have HC := Lib.hid C; clear C
  go_enter Tryz.func19, Tryz.ntmps19
  go_wp2_with (go_at_call 81; refine HC.out.mono ?_; rintro e w2 ⟨rfl, hb2⟩; refine Hid.out ?_)
  refine Lib.hid ?_
  go_wp2
  refine bodyPost_ret (by simp [results, Tryz.results19, go_sem]; rfl) rfl ?_
  exact ⟨rfl, hb2⟩
end Go.Proofs.YtbadibbdoljjhaaGreatDoor

/-
  Plain mathematics of numbers as decimal digits, the last one first: no program, no model.
-/
namespace Go.Proofs.YtbadibbdoljjhaaGreatDoor

/-- The value of nl, the lowest one first. -/
def dv : List Nat → Nat
  | [] => 0
  | x :: xs => x + 10 * dv xs

def Dg (l : List Nat) : Prop := ∀ x ∈ l, x < 10

theorem dv_nil : dv [] = 0 := rfl
theorem dv_cons (x : Nat) (xs : List Nat) : dv (x :: xs) = x + 10 * dv xs := rfl

theorem dv_append (a b : List Nat) : dv (a ++ b) = dv a + 10 ^ a.length * dv b := by
  induction a with
  | nil => simp [dv]
  | cons x xs ih => simp only [List.cons_append, dv, ih, List.length_cons, Nat.pow_succ]; grind

theorem dv_take_succ (l : List Nat) (i : Nat) (h : i < l.length) : dv (l.take (i+1)) = dv (l.take i) + l[i] * 10 ^ i := by
  rw [List.take_succ_eq_append_getElem h, dv_append]
  simp [dv, Nat.min_eq_left (Nat.le_of_lt h)]
  grind

theorem dv_split (l : List Nat) (i : Nat) (h : i ≤ l.length) : dv l = dv (l.take i) + 10 ^ i * dv (l.drop i) := by
  conv => lhs; rw [← List.take_append_drop i l, dv_append]
  rw [List.length_take, Nat.min_eq_left h]

theorem Dg.tail {x : Nat} {xs : List Nat} (h : Dg (x :: xs)) : Dg xs := fun y hy => h y (List.mem_cons_of_mem _ hy)
theorem Dg.head {x : Nat} {xs : List Nat} (h : Dg (x :: xs)) : x < 10 := h x (List.mem_cons_self ..)
theorem Dg.nil : Dg [] := fun _ h => by cases h
theorem Dg.cons {x : Nat} {xs : List Nat} (hx : x < 10) (h : Dg xs) : Dg (x :: xs) := by
  intro y hy; rcases List.mem_cons.1 hy with rfl | hy
  · exact hx
  · exact h y hy
theorem Dg.append {a b : List Nat} (ha : Dg a) (hb : Dg b) : Dg (a ++ b) := by
  intro y hy; rcases List.mem_append.1 hy with hy | hy
  · exact ha y hy
  · exact hb y hy
theorem Dg.take {l : List Nat} (h : Dg l) (i : Nat) : Dg (l.take i) := fun y hy => h y (List.mem_of_mem_take hy)
theorem Dg.drop {l : List Nat} (h : Dg l) (i : Nat) : Dg (l.drop i) := fun y hy => h y (List.mem_of_mem_drop hy)
theorem Dg.get {l : List Nat} (h : Dg l) (i : Nat) (hi : i < l.length) : l[i] < 10 := h _ (List.getElem_mem hi)
theorem Dg.set {l : List Nat} (h : Dg l) (i v : Nat) (hv : v < 10) : Dg (l.set i v) := by
  intro y hy
  rcases List.mem_or_eq_of_mem_set hy with hy | rfl
  · exact h y hy
  · exact hv
theorem Dg.replicate (n : Nat) : Dg (List.replicate n 0) := by
  intro y hy
  rw [List.eq_of_mem_replicate hy]; decide

theorem dv_lt {l : List Nat} (h : Dg l) : dv l < 10 ^ l.length := by
  induction l with
  | nil => simp [dv]
  | cons x xs ih =>
    have h1 := ih h.tail
    have h2 := h.head
    simp only [dv, List.length_cons, Nat.pow_succ]
    omega

theorem dv_replicate (n : Nat) : dv (List.replicate n 0) = 0 := by
  induction n with
  | zero => rfl
  | succ n ih => simp [List.replicate_succ, dv, ih]

theorem Dg.getD {l : List Nat} (h : Dg l) (k : Nat) : l.getD k 0 < 10 := by
  by_cases hk : k < l.length
  · rw [getD_lt l k hk]; exact h.get k hk
  · rw [getD_ge l k (by omega)]; decide

/-- The nl of a number, without a zero at the end. -/
def nl (n : Nat) : List Nat := if h : n = 0 then [] else n % 10 :: nl (n / 10)
termination_by n
decreasing_by omega

theorem nl_zero : nl 0 = [] := by rw [nl]; rfl
theorem nl_pos {n : Nat} (h : n ≠ 0) : nl n = n % 10 :: nl (n / 10) := by rw [nl, dif_neg h]

theorem nl_small (n : Nat) : Dg (nl n) := by
  induction n using Nat.strongRecOn with
  | _ n ih =>
    by_cases h : n = 0
    · rw [h, nl_zero]; exact Dg.nil
    · rw [nl_pos h]; exact Dg.cons (by omega) (ih _ (by omega))

theorem dv_limbs (n : Nat) : dv (nl n) = n := by
  induction n using Nat.strongRecOn with
  | _ n ih =>
    by_cases h : n = 0
    · rw [h, nl_zero]; rfl
    · rw [nl_pos h, dv_cons, ih _ (by omega)]; omega

theorem nl_nil_iff {n : Nat} : nl n = [] ↔ n = 0 := by
  constructor
  · intro h; rw [← dv_limbs n, h]; rfl
  · rintro rfl; exact nl_zero

/-- No zero at the end. -/
def DNorm (l : List Nat) : Prop := ∀ h : l ≠ [], l.getLast h ≠ 0

theorem dnorm_tail {x : Nat} {xs : List Nat} (h : DNorm (x :: xs)) : DNorm xs := by
  intro hne; have := h (by simp); rwa [List.getLast_cons hne] at this

theorem dnorm_val_pos {l : List Nat} (hn : DNorm l) (h : l ≠ []) : 0 < dv l := by
  induction l with
  | nil => exact absurd rfl h
  | cons x xs ih =>
    by_cases hx : xs = []
    · subst hx; have := hn (by simp); simp at this; simp [dv]; omega
    · have := ih (dnorm_tail hn) hx; simp [dv]; omega

/-- What has no zero at the end is the nl of its value. -/
theorem deq_limbs {l : List Nat} (hs : Dg l) (hn : DNorm l) : l = nl (dv l) := by
  induction l with
  | nil => rw [dv_nil, nl_zero]
  | cons x xs ih =>
    have hp := dnorm_val_pos hn (by simp)
    have h1 := hs.head
    rw [nl_pos (by omega)]
    have e1 : dv (x :: xs) % 10 = x := by simp only [dv]; omega
    have e2 : dv (x :: xs) / 10 = dv xs := by simp only [dv]; omega
    rw [e1, e2, ← ih hs.tail (dnorm_tail hn)]

theorem nl_length_le {n k : Nat} (h : n < 10 ^ k) : (nl n).length ≤ k := by
  induction k generalizing n with
  | zero => have : n = 0 := by simpa using h
            subst this; simp [nl_zero]
  | succ k ih =>
    by_cases h0 : n = 0
    · subst h0; simp [nl_zero]
    · rw [nl_pos h0, List.length_cons]
      have := @ih (n / 10) (by rw [Nat.pow_succ] at h; exact Nat.div_lt_of_lt_mul (by rw [Nat.mul_comm]; exact h))
      omega

theorem dlt_pow_limbs (n : Nat) : n < 10 ^ (nl n).length := by
  have := dv_lt (nl_small n); rwa [dv_limbs] at this

theorem dpow_le_of_limbs {n k : Nat} (h : k < (nl n).length) : 10 ^ k ≤ n := by
  rcases Nat.lt_or_ge n (10 ^ k) with h1 | h1
  · have := nl_length_le h1; omega
  · exact h1

theorem nl_length_mono {m n : Nat} (h : m ≤ n) : (nl m).length ≤ (nl n).length :=
  nl_length_le (Nat.lt_of_le_of_lt h (dlt_pow_limbs n))

theorem dlt_of_limbs_length {m n : Nat} (h : (nl m).length < (nl n).length) : m < n :=
  Nat.lt_of_lt_of_le (dlt_pow_limbs m) (dpow_le_of_limbs h)

/-- The order of numbers with as many nl is told by the highest limb that differs. -/
theorem dv_lt_of_top {a b : List Nat} (hs : Dg a) (hl : a.length = b.length) (i : Nat) (hi : i < a.length)
    (hd : a.drop (i + 1) = b.drop (i + 1)) (h : a[i] < b[i]'(hl ▸ hi)) : dv a < dv b := by
  rw [dv_split a (i + 1) (by omega), dv_split b (i + 1) (by omega), hd, dv_take_succ a i hi, dv_take_succ b i (by omega)]
  have h1 := dv_lt (hs.take i)
  rw [List.length_take, Nat.min_eq_left (by omega)] at h1
  have h2 : (a[i] + 1) * 10 ^ i ≤ b[i] * 10 ^ i := Nat.mul_le_mul_right _ h
  rw [Nat.add_mul] at h2
  omega

end Go.Proofs.YtbadibbdoljjhaaGreatDoor

/-
  Plain mathematics of the loops over nl: a step each.
-/
namespace Go.Proofs.YtbadibbdoljjhaaGreatDoor

theorem dv_take_getD (l : List Nat) (i : Nat) : dv (l.take (i + 1)) = dv (l.take i) + l.getD i 0 * 10 ^ i := by
  by_cases h : i < l.length
  · rw [dv_take_succ l i h, getD_lt l i h]
  · rw [getD_ge l i (by omega), List.take_of_length_le (by omega), List.take_of_length_le (by omega)]; simp

theorem dv_set_take (l : List Nat) (i v : Nat) (h : i < l.length) : dv ((l.set i v).take (i + 1)) = dv (l.take i) + v * 10 ^ i := by
  rw [dv_take_getD, take_set, getD_lt _ _ (by simpa using h), List.getElem_set_self]

/-- What the loop of an addition keeps. -/
structure DAddInv (x y s : List Nat) (n i c : Nat) : Prop where
  len : s.length = n + 1
  small : Dg s
  carry : c ≤ 1
  eq : dv (s.take i) + c * 10 ^ i = dv (x.take i) + dv (y.take i)

theorem DAddInv.start (x y : List Nat) (n : Nat) : DAddInv x y (List.replicate (n + 1) 0) n 0 0 :=
  ⟨by simp, Dg.replicate _, by omega, by simp [dv]⟩

theorem DAddInv.step {x y s : List Nat} {n i c : Nat} (h : DAddInv x y s n i c) (hi : i < n) (hx : Dg x) (hy : Dg y) :
    DAddInv x y (s.set i ((x.getD i 0 + c + y.getD i 0) % 10)) n (i + 1) ((x.getD i 0 + c + y.getD i 0) / 10) := by
  have h1 := hx.getD i; have h2 := hy.getD i; have h3 := h.carry
  refine ⟨by simp [h.len], h.small.set _ _ (by omega), by omega, ?_⟩
  rw [dv_set_take _ _ _ (by rw [h.len]; omega), dv_take_getD, dv_take_getD]
  have h4 := h.eq
  have h5 := Nat.div_add_mod (x.getD i 0 + c + y.getD i 0) 10
  generalize (x.getD i 0 + c + y.getD i 0) / 10 = q at *
  generalize (x.getD i 0 + c + y.getD i 0) % 10 = r at *
  rw [Nat.pow_succ]
  generalize 10 ^ i = p at *
  have : r * p + q * (p * 10) = (10 * q + r) * p := by grind
  have e2 : (x.getD i 0 + c + y.getD i 0) * p = x.getD i 0 * p + c * p + y.getD i 0 * p := by grind
  rw [h5, e2] at this
  omega

theorem DAddInv.done {x y s : List Nat} {n c : Nat} (h : DAddInv x y s n n c) (hx : x.length = n) (hy : y.length ≤ n) :
    Dg (s.set n c) ∧ (s.set n c).length = n + 1 ∧ dv (s.set n c) = dv x + dv y := by
  have h3 := h.carry
  refine ⟨h.small.set _ _ (by omega), by simp [h.len], ?_⟩
  have e : (s.set n c).take (n + 1) = s.set n c := List.take_of_length_le (by simp [h.len])
  rw [← e, dv_set_take _ _ _ (by rw [h.len]; omega), h.eq, List.take_of_length_le (by omega), List.take_of_length_le (by omega)]

end Go.Proofs.YtbadibbdoljjhaaGreatDoor

/-
  Plain mathematics of a multiplication over nl.
-/
namespace Go.Proofs.YtbadibbdoljjhaaGreatDoor

/-- What the inner loop keeps: p0 the nl before it, a the limb of x at i. -/
structure DMulInv (p0 p y : List Nat) (a i j c : Nat) : Prop where
  len : p.length = p0.length
  small : Dg p
  rest : p.drop (i + j) = p0.drop (i + j)
  carry : c < 10
  eq : dv (p.take (i + j)) + c * 10 ^ (i + j) = dv (p0.take (i + j)) + a * 10 ^ i * dv (y.take j)

theorem DMulInv.start {p0 y : List Nat} {a i : Nat} (hs : Dg p0) : DMulInv p0 p0 y a i 0 0 :=
  ⟨rfl, hs, rfl, by omega, by simp [dv]⟩

theorem dmul_lt (a b c p : Nat) (ha : a < 10) (hb : b < 10) (hc : c < 10) (hp : p < 10) : c + (a * b + p) < 10 * 10 := by
  have h : a * b ≤ 9 * 9 := Nat.mul_le_mul (by omega) (by omega)
  omega

theorem DMulInv.step {p0 p y : List Nat} {a i j c : Nat} (h : DMulInv p0 p y a i j c) (hi : i + j < p0.length) (ha : a < 10) (hy : Dg y) :
    DMulInv p0 (p.set (i + j) ((c + (a * y.getD j 0 + p.getD (i + j) 0)) % 10)) y a i (j + 1) ((c + (a * y.getD j 0 + p.getD (i + j) 0)) / 10) := by
  have h1 := h.small.getD (i + j); have h2 := hy.getD j; have h3 := h.carry; have h4 := h.eq
  have e0 := getD_of_drop h.rest
  have hlt := dmul_lt a (y.getD j 0) c (p.getD (i + j) 0) ha h2 h3 h1
  have hd := Nat.div_add_mod (c + (a * y.getD j 0 + p.getD (i + j) 0)) 10
  refine ⟨by simp [h.len], h.small.set _ _ (Nat.mod_lt _ (by decide)), drop_set_succ h.rest, Nat.div_lt_of_lt_mul hlt, ?_⟩
  rw [← Nat.add_assoc i j 1, dv_set_take _ _ _ (by rw [h.len]; exact hi), dv_take_getD p0, dv_take_getD y, ← e0, Nat.pow_succ]
  generalize (c + (a * y.getD j 0 + p.getD (i + j) 0)) / 10 = u at *
  generalize (c + (a * y.getD j 0 + p.getD (i + j) 0)) % 10 = v at *
  have ep : 10 ^ (i + j) = 10 ^ i * 10 ^ j := Nat.pow_add ..
  have e7 : (10 * u + v) * 10 ^ (i + j) = (c + (a * y.getD j 0 + p.getD (i + j) 0)) * 10 ^ (i + j) := by rw [hd]
  rw [ep] at h4 e7 ⊢
  clear ep hd hlt h1 h2 h3 e0 hy ha hi h
  generalize 10 ^ i = P at *
  generalize 10 ^ j = Q at *
  generalize p.getD (i + j) 0 = r at *
  generalize y.getD j 0 = s at *
  generalize dv (List.take (i + j) p) = A at *
  generalize dv (List.take (i + j) p0) = A0 at *
  generalize dv (List.take j y) = Z at *
  grind

/-- A round of the outer loop. -/
theorem DMulInv.done {x p0 p y : List Nat} {i m c : Nat} (h : DMulInv p0 p y (x.getD i 0) i m c) (hm : y.length = m) (hl : i + m < p0.length)
    (h0 : dv (p0.take (i + m)) = dv (x.take i) * dv y) :
    Dg (p.set (i + m) c) ∧ (p.set (i + m) c).length = p0.length ∧ dv ((p.set (i + m) c).take (i + 1 + m)) = dv (x.take (i + 1)) * dv y := by
  refine ⟨h.small.set _ _ h.carry, by simp [h.len], ?_⟩
  rw [show i + 1 + m = i + m + 1 by omega, dv_set_take _ _ _ (by rw [h.len]; exact hl), h.eq, h0, dv_take_getD, List.take_of_length_le (l := y) (by omega), Nat.add_mul]

end Go.Proofs.YtbadibbdoljjhaaGreatDoor

/-
  Rows of decimal digits in memory.
-/
namespace Go.Proofs.YtbadibbdoljjhaaGreatDoor
open Go Go.Proofs Go.RowKit

/-- The nl l lie in w behind the slice with this address and capacity. -/
def DAt (w : World) (ao : Option Addr) (c : Nat) (l : List Nat) : Prop :=
  l.length ≤ c ∧ c ≤ 9223372036854775807 ∧ ((l = [] ∧ (ao = none → c = 0)) ∨ ∃ b off, ao = some ⟨b, off, none⟩ ∧ b < w.heap.size ∧ ∀ k, k < l.length → w.cell? ⟨b, off + k, none⟩ = some (.int .i64 (l.getD k 0 : Nat)))

theorem DAt.mono {w w' : World} {ao : Option Addr} {c : Nat} {l : List Nat} (h : DAt w ao c l) (hb : Below w.heap.size w w') : DAt w' ao c l := by
  obtain ⟨h1, h2, h3⟩ := h
  refine ⟨h1, h2, ?_⟩
  rcases h3 with h3 | ⟨b, off, he, hlt, hc⟩
  · exact .inl h3
  · refine .inr ⟨b, off, he, Nat.lt_of_lt_of_le hlt hb.size, fun k hk => ?_⟩
    rw [hb.cell (p := ⟨b, off + k, none⟩) hlt]; exact hc k hk

/-- What a row of nl gives a walk: its cells by a function that the walk does not open. -/
theorem DAt.open {w : World} {ao : Option Addr} {c : Nat} {l : List Nat} (h : DAt w ao c l) (hs : Dg l) :
    ∃ d : Nat → Int, (∀ k, k < l.length → d k = (l.getD k 0 : Nat)) ∧ (∀ k, 0 ≤ d k ∧ d k < 10) ∧
      (l = [] ∨ ∃ b off, ao = some ⟨b, off, none⟩ ∧ b < w.heap.size ∧ ∀ k, k < l.length → w.cell? ⟨b, off + k, none⟩ = some (.int .i64 (d k))) := by
  refine ⟨fun k => (l.getD k 0 : Nat), fun k _ => rfl, fun k => ⟨Int.natCast_nonneg _, ?_⟩, h.2.2.imp (fun h => h.1) id⟩
  have := hs.getD k
  show ((l.getD k 0 : Nat) : Int) < 10
  omega

theorem dtake_keep {l : List Nat} (hs : Dg l) : l.take (keep l) = nl (dv l) := by
  induction l with
  | nil => rw [dv_nil, nl_zero]; rfl
  | cons x xs ih =>
    have h1 := hs.head
    have h2 := ih hs.tail
    have h3 : keep xs = 0 → dv xs = 0 := fun h => by
      rw [h, List.take_zero] at h2; exact nl_nil_iff.1 h2.symm
    have h4 : dv xs = 0 → keep xs = 0 := fun h => by
      rw [h, nl_zero] at h2
      have := congrArg List.length h2
      simp at this
      rcases this with h | h
      · exact h
      · rw [h]; rfl
    simp only [keep, dv]
    by_cases h : keep xs = 0 ∧ x = 0
    · rw [if_pos h, h3 h.1, h.2, List.take_zero]; simp [nl_zero]
    · rw [if_neg h, List.take_succ_cons, h2]
      have hne : x + 10 * dv xs ≠ 0 := by
        intro e
        exact h ⟨h4 (by omega), by omega⟩
      rw [nl_pos hne]
      have e1 : (x + 10 * dv xs) % 10 = x := by omega
      have e2 : (x + 10 * dv xs) / 10 = dv xs := by omega
      rw [e1, e2]

theorem DAt.take {w : World} {ao : Option Addr} {c : Nat} {l : List Nat} (h : DAt w ao c l) (k : Nat) (hk : k ≤ l.length) : DAt w ao c (l.take k) := by
  obtain ⟨h1, h2, h3⟩ := h
  have hl : (l.take k).length = k := by simp; omega
  refine ⟨by omega, h2, ?_⟩
  rcases h3 with ⟨h3, h4⟩ | ⟨b, off, he, hlt, hc⟩
  · left; rw [h3]; exact ⟨by simp, h4⟩
  · right
    refine ⟨b, off, he, hlt, fun j hj => ?_⟩
    have := hc j (by omega)
    rw [this]
    have e : (l.take k).getD j 0 = l.getD j 0 := by
      rw [getD_lt _ _ hj, getD_lt _ _ (by omega), List.getElem_take]
    rw [e]

/-- Limbs as cells. -/
def dcellsOf (l : List Nat) : List Value := l.map fun n => Value.int .i64 (n : Nat)

theorem dcellsOf_length (l : List Nat) : (dcellsOf l).length = l.length := by simp [dcellsOf]
theorem dcellsOf_get (l : List Nat) (k : Nat) (h : k < l.length) : (dcellsOf l)[k]? = some (.int .i64 (l.getD k 0 : Nat)) := by
  simp [dcellsOf, h]
theorem dcellsOf_append (a b : List Nat) : dcellsOf (a ++ b) = dcellsOf a ++ dcellsOf b := by simp [dcellsOf]

/-- What the call owns is a row of nl. -/
theorem drow_of_owns {w : World} {base : Nat} {v : Value} {n : Nat} {l : List Nat} (h : w.ownsRow base 3 1 v n (dcellsOf l)) :
    ∃ ao c, v = .slice ao l.length c ∧ DAt w ao c l := by
  obtain ⟨h1, h2⟩ := h
  rw [dcellsOf_length] at h1
  have hn : n = l.length := by omega
  subst hn
  rcases h2 with ⟨rfl, h0⟩ | ⟨g, cap, cur, rfl, hb, hg, hle, hm, hs, ht⟩
  · have : l = [] := List.length_eq_zero_iff.1 h0
    subst this
    exact ⟨none, 0, rfl, Nat.le_refl _, by decide, .inl ⟨rfl, fun _ => rfl⟩⟩
  · refine ⟨some ⟨g, 0, none⟩, cap, rfl, hle, by unfold maxLen at hm; omega, .inr ⟨g, 0, rfl, lt_of_block hg, fun k hk => ?_⟩⟩
    rw [Nat.zero_add]
    have e : w.cell? ⟨g, k, none⟩ = cur[k]? := by simp [World.cell?, hg]
    rw [e]
    have h3 := dcellsOf_get l k hk
    rw [← ht, List.getElem?_take] at h3
    rw [if_pos (by omega)] at h3
    simpa using h3

theorem dinfoU32 : (Tryz.prog.info? 3).map (fun i => (i.zero, i.size, i.bytes)) = some (some (.int .i64 0), 1, 8) := by kernel_rfl

/-- Block b begins with the nl l. -/
def DBlk (w : World) (b : Nat) (l : List Nat) : Prop := ∃ R : List Value, w.heap[b]? = some (.cells (dcellsOf l ++ R).toArray 3 (0, 0))

theorem DBlk.lt {w : World} {b : Nat} {l : List Nat} (h : DBlk w b l) : b < w.heap.size := by obtain ⟨R, h⟩ := h; exact lt_of_block h
theorem DBlk.cell {w : World} {b : Nat} {l : List Nat} (h : DBlk w b l) (k : Nat) (hk : k < l.length) : w.cell? ⟨b, k, none⟩ = some (.int .i64 (l.getD k 0 : Nat)) := by
  obtain ⟨R, h⟩ := h
  have e : w.cell? ⟨b, k, none⟩ = (dcellsOf l ++ R).toArray[k]? := by simp [World.cell?, h]
  rw [e, ← dcellsOf_get l k hk]
  simp only [List.getElem?_toArray]
  rw [List.getElem?_append_left (by rw [dcellsOf_length]; exact hk)]
theorem DBlk.frozen {w : World} {b : Nat} {l : List Nat} (h : DBlk w b l) (k : Nat) : w.frozen? ⟨b, k, none⟩ = false := by
  obtain ⟨R, h⟩ := h; simp [World.frozen?, h]

theorem DBlk.set {w : World} {b : Nat} {l : List Nat} (h : DBlk w b l) (k n : Nat) : DBlk (w.setCell ⟨b, k, none⟩ (.int .i64 (n : Int))) b (l.set k n) := by
  obtain ⟨R, h⟩ := h
  have hlt := lt_of_block h
  have h' : w.heap[b] = .cells (dcellsOf l ++ R).toArray 3 (0, 0) := by simpa [Array.getElem?_eq_getElem hlt] using h
  have e : (w.setCell ⟨b, k, none⟩ (.int .i64 (n : Int))).heap[b]? = some (.cells ((dcellsOf l ++ R).set k (.int .i64 (n : Int))).toArray 3 (0, 0)) := by
    show (w.heap.modify b _)[b]? = _
    rw [Array.getElem?_eq_getElem (by simpa using hlt), Array.getElem_modify_self, h']
    simp
  by_cases hk : k < l.length
  · refine ⟨R, ?_⟩
    rw [e, List.set_append_left _ _ (by rw [dcellsOf_length]; exact hk)]
    simp [dcellsOf, List.map_set]
  · refine ⟨R.set (k - (dcellsOf l).length) (.int .i64 (n : Int)), ?_⟩
    rw [e, List.set_append_right _ _ (by rw [dcellsOf_length]; omega), List.set_eq_of_length_le (l := l) (by omega)]

theorem DBlk.keep {w w' : World} {b : Nat} {l : List Nat} {row : Option Nat} (h : DBlk w b l) (hg : w.grownBy w' row) (hne : some b ≠ row) : DBlk w' b l := by
  obtain ⟨R, h⟩ := h
  exact ⟨R, by rw [hg.block b (lt_of_block h) hne]; exact h⟩

theorem DBlk.row {w : World} {b c : Nat} {l : List Nat} (h : DBlk w b l) (hc : l.length ≤ c) (hm : c ≤ 9223372036854775807) : DAt w (some ⟨b, 0, none⟩) c l :=
  ⟨hc, hm, .inr ⟨b, 0, rfl, h.lt, fun k hk => by rw [Nat.zero_add]; exact h.cell k hk⟩⟩

/-- What 'append' leaves. -/
theorem dblk_of_owns {w : World} {base g n c : Nat} {l : List Nat} (h : w.ownsRow base 3 1 (.slice (some ⟨g, 0, none⟩) n c) n (dcellsOf l)) : DBlk w g l ∧ l.length = n ∧ n ≤ c ∧ c ≤ 9223372036854775807 ∧ base ≤ g := by
  obtain ⟨h1, h2⟩ := h
  rw [dcellsOf_length] at h1
  rcases h2 with ⟨h2, -⟩ | ⟨g', cap, cur, he, hb, hg, hle, hm, hs, ht⟩
  · simp at h2
  · injection he with e1 e2 e3
    injection e1 with e1; injection e1 with e1 _ _
    subst e1; subst e3
    refine ⟨⟨cur.toList.drop (n * 1), ?_⟩, by omega, hle, by unfold maxLen at hm; omega, hb⟩
    rw [hg, ← ht, List.take_append_drop]

/-- What 'make' leaves. -/
theorem dblk_of_made {w : World} {base g n : Nat} (h : w.ownsRow base 3 1 (.slice (some ⟨g, 0, none⟩) n n) n (madeCells #[Value.int .i64 0] n).toList) : DBlk w g (List.replicate n 0) := by
  have e : (madeCells #[Value.int .i64 0] n).toList = dcellsOf (List.replicate n 0) :=
    List.ext_getElem (by simp [dcellsOf, madeCells]) fun i h3 h4 => by simp [dcellsOf, madeCells, Nat.mod_one]
  rw [e] at h
  exact (dblk_of_owns h).1

theorem DAt.get {w : World} {b off c : Nat} {l : List Nat} (h : DAt w (some ⟨b, off, none⟩) c l) (k : Nat) (hk : k < l.length) : w.cell? ⟨b, off + k, none⟩ = some (.int .i64 (l.getD k 0 : Nat)) := by
  rcases h.2.2 with ⟨h0, -⟩ | ⟨b', off', he, _, hc⟩
  · rw [h0] at hk; simp at hk
  · injection he with he; injection he with e1 e2 _
    subst e1; subst e2
    exact hc k hk
theorem DAt.block {w : World} {b off c : Nat} {l : List Nat} (h : DAt w (some ⟨b, off, none⟩) c l) (hne : l ≠ []) : b < w.heap.size := by
  rcases h.2.2 with ⟨h0, -⟩ | ⟨b', off', he, hlt, hc⟩
  · exact absurd h0 hne
  · injection he with he; injection he with e1 e2 _
    subst e1; exact hlt
theorem DAt.addr {w : World} {ao : Option Addr} {c : Nat} {l : List Nat} (h : DAt w ao c l) (hne : l ≠ []) : ∃ b off, ao = some ⟨b, off, none⟩ := by
  rcases h.2.2 with ⟨h0, -⟩ | ⟨b, off, he, _, _⟩
  · exact absurd h0 hne
  · exact ⟨b, off, he⟩

theorem dnews_at {w : World} {b o c : Nat} {X : List Nat} (h : DAt w (some ⟨b, o, none⟩) c X) : ∀ j u, (dcellsOf X)[j]? = some u → w.cell? ((⟨b, o, none⟩ : Addr).add j) = some u := by
  intro j u hj
  have hjl : j < X.length := by
    have := (List.getElem?_eq_some_iff.1 hj).1
    rwa [dcellsOf_length] at this
  rw [dcellsOf_get X j hjl] at hj
  injection hj with hj
  rw [← hj, addr_add]
  exact h.get j hjl

end Go.Proofs.YtbadibbdoljjhaaGreatDoor
