import Derived.Test.YtbadibbdoljjhaaGreatDoorBase17
import Derived.Test.YtbadibbdoljjhaaGreatDoorBase15
import Derived.Test.YtbadibbdoljjhaaGreatDoorBase21
import Derived.Test.YtbadibbdoljjhaaGreatDoorBase24

set_option linter.unusedVariables false
/-
  bigint: Gcd, Lcm, Bezout for all strings.
-/
namespace Go.Proofs.YtbadibbdoljjhaaGreatDoor
open Go Go.Proofs Go.RowKit

def gcdI (x y : Int) : Int := ((Int.gcd x y : Nat) : Int)
/-- The least common multiple. -/
def lcmI (x y : Int) : Int := (((x.fdiv (gcdI x y)) * y).natAbs : Int)
/-- What Bezout returns: the error, or the divisor and its coefficients. -/
def bezErr (e : Nat) : Value := .tuple #[.string ⟨#[]⟩, .string ⟨#[]⟩, .string ⟨#[]⟩, .int .i64 (e : Nat)]
def bezR (a b : List UInt8) : Value := if errBoth a b = 0 then bezV (bezOf (valZ a) (valZ b)) else bezErr (errBoth a b)
theorem bezR_parts (a b : List UInt8) : ∃ (u v t : ByteArray) (e : Nat), bezR a b = .tuple #[.string u, .string v, .string t, .int .i64 e] := by
  unfold bezR; split
  · exact ⟨_, _, _, 0, rfl⟩
  · exact ⟨_, _, _, _, rfl⟩
theorem gcdI_nonneg (x y : Int) : 0 ≤ gcdI x y := Int.natCast_nonneg _
theorem gcdI_zero {x y : Int} : gcdI x y = 0 ↔ x = 0 ∧ y = 0 := by
  unfold gcdI
  rw [show (((Int.gcd x y : Nat) : Int) = 0) = (Int.gcd x y = 0) from propext (by omega)]
  exact Int.gcd_eq_zero_iff
theorem gcd_fits {s t : ByteArray} {x y : Int} (hs : Str s x) (ht : Str t y) : Str (str (Lib.itoa (gcdI x y))) (gcdI x y) := by
  refine str_itoa (decDigits_length_le _ 4096 (by decide) (gcd_digits hs ht))

set_option maxHeartbeats 1000000 in
theorem bigGcd_err (s t : ByteArray) (w : World) (hs : s.size ≤ 9223372036854775807) (ht : t.size ≤ 9223372036854775807) (h : errBoth (bytes s) (bytes t) ≠ 0) :
    Calls Tryz.prog 19 #[.string s, .string t] w (Bret (errV (errBoth (bytes s) (bytes t))) w) := by
  have C1 := fun W => compute_err 82 83 s t W hs ht h
  unfold errV at *
  unfold opV at C1
  generalize errBoth (bytes s) (bytes t) = c at *
  have K1 := Lib.hid C1; clear C1 h
  go_enter Tryz.func19, Tryz.ntmps19
  go_wp2_with (go_at_call 81; refine (K1.out _).mono ?_; rintro e w1 ⟨rfl, hb1⟩; refine Hid.out ?_)
  refine Lib.hid ?_
  go_wp2
  refine bodyPost_ret (by simp [results, Tryz.results19, go_sem]; rfl) rfl ?_
  exact ⟨rfl, hb1⟩

theorem bigGcdR (s t : ByteArray) (w : World) (hs : s.size ≤ 9223372036854775807) (ht : t.size ≤ 9223372036854775807) (htab : Lib.TabIs Tryz.prog w "internal/strconv.uint64pow10" .u64 Lib.pow10Tab) :
    Calls Tryz.prog 19 #[.string s, .string t] w (Bret (opR gcdI (bytes s) (bytes t)) w) := by
  unfold opR
  by_cases h : errBoth (bytes s) (bytes t) = 0
  · rw [if_pos h]
    obtain ⟨h1, h2⟩ := errBoth_zero h
    exact gcdZ s t _ _ w (str_of_err h1) (str_of_err h2) htab
  · rw [if_neg h]
    exact bigGcd_err s t w hs ht h

theorem fdiv_len {s t : ByteArray} {x y : Int} (hs : Str s x) (hy : y ≠ 0) : Str (str (Lib.itoa (x.fdiv y))) (x.fdiv y) :=
  str_itoa (Nat.le_trans (div_len x y (fdiv_le x y hy)) hs.len)

set_option maxHeartbeats 2000000 in
theorem bigLcmR (s t : ByteArray) (w : World) (hs : s.size ≤ 9223372036854775807) (ht : t.size ≤ 9223372036854775807) (htab : Lib.TabIs Tryz.prog w "internal/strconv.uint64pow10" .u64 Lib.pow10Tab) :
    Calls Tryz.prog 21 #[.string s, .string t] w (Bret (opR lcmI (bytes s) (bytes t)) w) := by
  have hT := Lib.tabBelow_of_tabIs htab
  have C1 : ∀ W : World, Below w.heap.size w W → Calls Tryz.prog 19 #[.string s, .string t] W (Bret (opR gcdI (bytes s) (bytes t)) W) := fun W hW => bigGcdR s t W hs ht (hT.on hW).here
  unfold opR at *
  by_cases h : errBoth (bytes s) (bytes t) = 0
  · rw [if_pos h] at C1 ⊢
    obtain ⟨h1, h2⟩ := errBoth_zero h
    have q1 := str_of_err h1; have q2 := str_of_err h2
    generalize valZ (bytes s) = x at *
    generalize valZ (bytes t) = y at *
    rw [resV_lit (gcd_fits q1 q2)] at C1
    by_cases hz : gcdI x y = 0
    · obtain ⟨rfl, rfl⟩ := gcdI_zero.1 hz
      have e : resV (lcmI 0 0) = .tuple #[.string ⟨#[48]⟩, .int .i64 0] := resV_lit' str_zero (by unfold lcmI; simp)
      rw [e]
      rw [hz, lit_str str_zero] at C1
      have K1 := Lib.hid C1; clear C1 hs ht htab hT h h1 h2 q1 q2 hz e
      go_enter Tryz.func21, Tryz.ntmps21
      go_wp2_with (go_at_call 19; refine (K1.out _ (Below.refl _ _)).mono ?_; rintro e w1 ⟨rfl, hb1⟩; refine Hid.out ?_)
      refine Lib.hid ?_
      go_wp2
      refine bodyPost_ret (by simp [results, Tryz.results21, go_sem]; rfl) rfl ?_
      exact ⟨rfl, hb1⟩
    · have q3 := gcd_fits q1 q2
      have hne := eq48 _ (q3.ne_zero hz)
      have hq := fdiv_len (t := t) q1 hz
      have C2 : ∀ W : World, Below w.heap.size w W → Calls Tryz.prog 65 #[.string s, .string (str (Lib.itoa (gcdI x y)))] W (Bret (.tuple #[.string (str (Lib.itoa (x.fdiv (gcdI x y)))), .int .i64 0]) W) := fun W hW => by
        have := quoZ s _ x (gcdI x y) W q1 q3 hz (hT.on hW).here
        rwa [resV_lit hq] at this
      have C3 : ∀ W : World, Below w.heap.size w W → Calls Tryz.prog 57 #[.string (str (Lib.itoa (x.fdiv (gcdI x y)))), .string t] W (Bret (resV (x.fdiv (gcdI x y) * y)) W) := fun W hW => mulZ _ t _ y W hq q2 (hT.on hW).here
      by_cases hf : 4096 < (Lib.decDigits (x.fdiv (gcdI x y) * y).natAbs).length
      · rw [resV_long hf] at C3
        have e : resV (lcmI x y) = .tuple #[.string ⟨#[]⟩, .int .i64 10] := by
          refine resV_long ?_
          unfold lcmI
          rwa [Int.natAbs_natCast]
        rw [e]
        generalize str (Lib.itoa (x.fdiv (gcdI x y))) = r2 at *
        generalize str (Lib.itoa (gcdI x y)) = r1 at *
        have K1 := Lib.hid C1; have K2 := Lib.hid C2; have K3 := Lib.hid C3
        clear C1 C2 C3 hs ht htab hT h h1 h2 q1 q2 q3 hz hq hf e
        go_enter Tryz.func21, Tryz.ntmps21
        go_wp2_with (go_at_call 19; refine (K1.out _ (Below.refl _ _)).mono ?_; rintro e w1 ⟨rfl, hb1⟩; refine Hid.out ?_)
        refine Lib.hid ?_
        go_wp2_with (go_at_call 65; refine (K2.out _ hb1).mono ?_; rintro e w2 ⟨rfl, hb2⟩; refine Hid.out ?_)
        have hB2 := Below.chain hb1 hb2; clear hb2 hb1
        refine Lib.hid ?_
        go_wp2_with (go_at_call 57; refine (K3.out _ hB2).mono ?_; rintro e w3 ⟨rfl, hb3⟩; refine Hid.out ?_)
        have hB3 := Below.chain hB2 hb3; clear hb3 hB2
        refine Lib.hid ?_
        go_wp2
        refine bodyPost_ret (by simp [results, Tryz.results21, go_sem]; rfl) rfl ?_
        exact ⟨rfl, hB3⟩
      · rw [resV_fits hf] at C3
        have q4 : Str (str (Lib.itoa (x.fdiv (gcdI x y) * y))) (x.fdiv (gcdI x y) * y) := str_itoa (Nat.le_of_not_lt hf)
        have C4 := fun W => absZ _ _ W q4
        have e : resV (lcmI x y) = .tuple #[.string (str (Lib.itoa (lcmI x y))), .int .i64 0] := resV_fits (by unfold lcmI; rwa [Int.natAbs_natCast])
        rw [e]
        unfold lcmI
        generalize str (Lib.itoa (((x.fdiv (gcdI x y)) * y).natAbs : Int)) = r4 at *
        generalize str (Lib.itoa (x.fdiv (gcdI x y) * y)) = r3 at *
        generalize str (Lib.itoa (x.fdiv (gcdI x y))) = r2 at *
        generalize str (Lib.itoa (gcdI x y)) = r1 at *
        have K1 := Lib.hid C1; have K2 := Lib.hid C2; have K3 := Lib.hid C3; have K4 := Lib.hid C4
        clear C1 C2 C3 C4 hs ht htab hT h h1 h2 q1 q2 q3 q4 hz hq hf e
        go_enter Tryz.func21, Tryz.ntmps21
        go_wp2_with (go_at_call 19; refine (K1.out _ (Below.refl _ _)).mono ?_; rintro e w1 ⟨rfl, hb1⟩; refine Hid.out ?_)
        refine Lib.hid ?_
        go_wp2_with (go_at_call 65; refine (K2.out _ hb1).mono ?_; rintro e w2 ⟨rfl, hb2⟩; refine Hid.out ?_)
        have hB2 := Below.chain hb1 hb2; clear hb2 hb1
        refine Lib.hid ?_
        go_wp2_with (go_at_call 57; refine (K3.out _ hB2).mono ?_; rintro e w3 ⟨rfl, hb3⟩; refine Hid.out ?_)
        have hB3 := Below.chain hB2 hb3; clear hb3 hB2
        refine Lib.hid ?_
        go_wp2_with (go_at_call 64; refine (K4.out _).mono ?_; rintro e w4 ⟨rfl, h⟩; subst h; refine Hid.out ?_)
        refine Lib.hid ?_
        go_wp2
        refine bodyPost_ret (by simp [results, Tryz.results21, go_sem]; rfl) rfl ?_
        exact ⟨rfl, hB3⟩
  · rw [if_neg h] at C1 ⊢
    have hc := errBoth_cases (bytes s) (bytes t)
    unfold errV at *
    generalize errBoth (bytes s) (bytes t) = c at *
    have K1 := Lib.hid C1; clear C1 hs ht htab hT
    rcases hc with rfl | rfl | rfl
    · exact absurd rfl h
    all_goals
      clear h
      go_enter Tryz.func21, Tryz.ntmps21
      go_wp2_with (go_at_call 19; refine (K1.out _ (Below.refl _ _)).mono ?_; rintro e w1 ⟨rfl, hb1⟩; refine Hid.out ?_)
      refine Lib.hid ?_
      go_wp2
      refine bodyPost_ret (by simp [results, Tryz.results21, go_sem]; rfl) rfl ?_
      exact ⟨rfl, hb1⟩

set_option maxHeartbeats 1000000 in
theorem bigBezoutR (s t : ByteArray) (w : World) (hs : s.size ≤ 9223372036854775807) (ht : t.size ≤ 9223372036854775807) (htab : Lib.TabIs Tryz.prog w "internal/strconv.uint64pow10" .u64 Lib.pow10Tab) :
    Calls Tryz.prog 23 #[.string s, .string t] w (Bret (bezR (bytes s) (bytes t)) w) := by
  unfold bezR
  by_cases h : errBoth (bytes s) (bytes t) = 0
  · rw [if_pos h]
    obtain ⟨h1, h2⟩ := errBoth_zero h
    exact bezoutZ s t _ _ w (str_of_err h1) (str_of_err h2) htab
  · rw [if_neg h]
    have C1 := fun W => checkBoth_any s t W hs ht
    have hc := errBoth_cases (bytes s) (bytes t)
    unfold bezErr
    generalize errBoth (bytes s) (bytes t) = c at *
    have K1 := Lib.hid C1; clear C1 hs ht htab
    rcases hc with rfl | rfl | rfl
    · exact absurd rfl h
    all_goals
      clear h
      go_enter Tryz.func23, Tryz.ntmps23
      go_wp2_with (go_at_call 90; refine (K1.out _).mono ?_; rintro e w1 ⟨rfl, h⟩; subst h; refine Hid.out ?_)
      refine Lib.hid ?_
      go_wp2
      refine bodyPost_ret (by simp [results, Tryz.results23, go_sem]; rfl) rfl ?_
      exact ⟨rfl, Below.refl _ _⟩
end Go.Proofs.YtbadibbdoljjhaaGreatDoor

/-
  The reference: Common, Coefficients.
-/
namespace Go.Proofs.YtbadibbdoljjhaaGreatDoor
open Go Go.Proofs Go.RowKit

def strOf : Value → ByteArray
  | .string s => s
  | _ => ⟨#[]⟩
/-- A string that is an integer with at most n digits. -/
structure Txt (n : Nat) (s : ByteArray) (z : Int) : Prop where
  text : bytes s = Lib.itoa z
  len : (Lib.decDigits z.natAbs).length ≤ n
theorem Txt.size {n : Nat} {s : ByteArray} {z : Int} (h : Txt n s z) : s.size ≤ n + 1 := by
  have h1 := txt_len h.text; have h2 := h.len; split at h1 <;> omega
theorem Txt.mono {m n : Nat} {s : ByteArray} {z : Int} (h : Txt m s z) (hn : m ≤ n) : Txt n s z := ⟨h.text, Nat.le_trans h.len hn⟩
theorem Txt.of {n : Nat} {z : Int} (h : (Lib.decDigits z.natAbs).length ≤ n) : Txt n (str (Lib.itoa z)) z := ⟨txt_str _, h⟩
theorem Txt.lt {n : Nat} {s : ByteArray} {z : Int} (h : Txt n s z) : z.natAbs < 10 ^ n := dec_pow h.len
theorem Txt.ofLt {n : Nat} {z : Int} (h0 : 0 < n) (h : z.natAbs < 10 ^ n) : Txt n (str (Lib.itoa z)) z := Txt.of (decDigits_length_le _ n h0 h)
theorem Txt.ofTxt {s : ByteArray} {z : Int} {n : Nat} (h : bytes s = Lib.itoa z) (hs : s.size ≤ n) : Txt n s z := ⟨h, by have := txt_len h; split at this <;> omega⟩
theorem Txt.pos {n : Nat} {s : ByteArray} {z : Int} (h : Txt n s z) : 0 < n := by
  have := List.length_pos_iff.2 (decDigits_ne_nil z.natAbs); have := h.len; omega

set_option maxHeartbeats 1000000 in
theorem refCommonI (s t : ByteArray) (x y : Int) (w : World) (hs : bytes s = Lib.itoa x) (ht : bytes t = Lib.itoa y) (hls : s.size ≤ 900000) (hlt : t.size ≤ 900000) :
    Calls Tryz.prog 85 #[.string s, .string t] w (Bret (.string (str (Lib.itoa ((Int.gcd x y : Nat) : Int)))) w) := by
  have C1 := fun W => refMagnitudeT s x W hs (by omega)
  have C2 := fun W => refMagnitudeT t y W ht (by omega)
  have q1 : Txt 900000 (str (Lib.itoa (x.natAbs : Int))) (x.natAbs : Int) := Txt.of (by rw [Int.natAbs_natCast]; exact (Txt.ofTxt hs hls).len)
  have q2 : Txt 900000 (str (Lib.itoa (y.natAbs : Int))) (y.natAbs : Int) := Txt.of (by rw [Int.natAbs_natCast]; exact (Txt.ofTxt ht hlt).len)
  have R : ∀ (a b : ByteArray) (X Y : Int), Txt 900000 a X → Txt 900000 b Y → Y ≠ 0 → ∀ W, Calls Tryz.prog 139 #[.string a, .string b] W (Bret (.string (str (Lib.itoa (X.fmod Y)))) W) := fun a b X Y ha hb hY W =>
    refRestI a b X Y W ha.text hb.text (by have := ha.size; omega) (by have := hb.size; omega) hY
  have hg : Int.gcd (x.natAbs : Int) (y.natAbs : Int) = Int.gcd x y := by unfold Int.gcd; simp
  generalize str (Lib.itoa (x.natAbs : Int)) = a0 at *
  generalize str (Lib.itoa (y.natAbs : Int)) = b0 at *
  have K1 := Lib.hid C1; have K2 := Lib.hid C2; have KR := Lib.hid R; have Q1 := Lib.hid q1; have Q2 := Lib.hid q2; have HG := Lib.hid hg
  clear C1 C2 R q1 q2 hs ht hls hlt hg
  generalize hxa : (x.natAbs : Int) = xa at *
  generalize hya : (y.natAbs : Int) = ya at *
  have N1 : 0 ≤ xa := by omega
  have N2 : 0 ≤ ya := by omega
  have P1 := Lib.hid N1; have P2 := Lib.hid N2
  clear hxa hya N1 N2
  go_enter Tryz.func85, Tryz.ntmps85
  go_wp2_with (go_at_call 87; refine (K1.out _).mono ?_; rintro e w1 ⟨rfl, h⟩; subst h; refine Hid.out ?_)
  refine Lib.hid ?_
  go_wp2_with (go_at_call 87; refine (K2.out _).mono ?_; rintro e w2 ⟨rfl, h⟩; subst h; refine Hid.out ?_)
  refine Lib.hid ?_
  go_wp2_with fail
  go_loopw [5, 6] (fun xv yv wr => ∃ (a b : ByteArray) (X Y : Int), xv = .string a ∧ yv = .string b ∧ Txt 900000 a X ∧ Txt 900000 b Y ∧ 0 ≤ X ∧ 0 ≤ Y ∧ Int.gcd X Y = Int.gcd x y ∧ Below w2.heap.size w2 wr) (fun _ yv _ => (valZ (bytes (strOf yv))).natAbs)
  case atStart => exact ⟨_, _, xa, ya, rfl, rfl, Q1.out, Q2.out, P1.out, P2.out, HG.out, Below.refl _ _⟩
  case round =>
    obtain ⟨a, b, X, Y, rfl, rfl, ha, hb, hX, hY, hg, hbw⟩ := hrel
    have HB := Lib.hid hbw; clear hbw
    by_cases h0 : Y = 0
    · subst h0
      obtain rfl := txt_is_zero hb.text
      have e : str (Lib.itoa ((Int.gcd x y : Nat) : Int)) = a := by
        rw [← hg, Int.gcd_zero_right, show ((X.natAbs : Nat) : Int) = X by omega]
        exact lit_txt ha.text
      have HE := Lib.hid e
      clear ha hb hX hY hg e KR Q1 Q2 HG P1 P2 K1 K2
      go_wp2
      refine bodyPost_ret (v := .string a) (by simp [results, Tryz.results85, go_sem]) rfl ?_
      exact ⟨by rw [HE.out], HB.out⟩
    · have hne := eq48 b (txt_zero hb.text h0)
      have C := KR.out a b X Y ha hb h0 wr
      have hz := fmod_nonneg X Y (by omega)
      have hl := fmod_natAbs_lt X Y h0
      have hr : Txt 900000 (str (Lib.itoa (X.fmod Y))) (X.fmod Y) := Txt.ofLt (by decide) (Nat.lt_trans hl hb.lt)
      have hgc : Int.gcd Y (X.fmod Y) = Int.gcd x y := by
        rw [← hg]
        have h1 := (BezCong.step (a := X) (b := Y) (g := X) (n := Y) (x := 1) (f := 0) ⟨rfl, ⟨0, by simp⟩, ⟨1, by simp⟩⟩).gcd
        rwa [step_fmod] at h1
      have hm : (valZ (bytes (str (Lib.itoa (X.fmod Y))))).natAbs < (valZ (bytes b)).natAbs := by rw [txt_str, valZ_itoa, hb.text, valZ_itoa]; exact hl
      generalize X.fmod Y = Z at *
      generalize str (Lib.itoa Z) = c at *
      have HC := Lib.hid C; have F := Lib.hid (And.intro hb (And.intro hr (And.intro hY (And.intro hz (And.intro hgc hm)))))
      clear C ha hb hX hY hg hz hl hr hgc hm h0 KR Q1 Q2 HG P1 P2 K1 K2
      go_wp2_with (go_at_call 139; refine HC.out.mono ?_; rintro e w3 ⟨rfl, hb3⟩; refine Hid.out ?_)
      refine Lib.hid ?_
      go_wp2
      obtain ⟨f1, f2, f3, f4, f5, f6⟩ := F.out
      go_roundw
      case rel => exact ⟨b, c, Y, Z, rfl, rfl, f1, f2, f3, f4, f5, Below.chain HB.out hb3⟩
      case measure => exact f6

/-- The sizes of the numbers on the way. -/
theorem txt_prod {m n : Nat} {a b : ByteArray} {x y : Int} (ha : Txt m a x) (hb : Txt n b y) : Txt (m + n) (str (Lib.itoa (x * y))) (x * y) := Txt.of (Nat.le_trans (mul_len' x y) (Nat.add_le_add ha.len hb.len))
theorem txt_fdiv {m : Nat} {a : ByteArray} {x y : Int} (ha : Txt m a x) (hy : y ≠ 0) : Txt m (str (Lib.itoa (x.fdiv y))) (x.fdiv y) := Txt.of (Nat.le_trans (div_len x y (fdiv_le x y hy)) ha.len)
theorem txt_fmod {m : Nat} {b : ByteArray} {x y : Int} (hb : Txt m b y) (hy : y ≠ 0) : Txt m (str (Lib.itoa (x.fmod y))) (x.fmod y) := Txt.ofLt hb.pos (Nat.lt_trans (fmod_natAbs_lt x y hy) hb.lt)
theorem txt_sub {m n : Nat} {a b : ByteArray} {x y : Int} (ha : Txt m a x) (hb : Txt n b y) : Txt (m + n + 1) (str (Lib.itoa (x - y))) (x - y) := by
  refine Txt.ofLt (by omega) ?_
  have h1 : (x - y).natAbs ≤ x.natAbs + y.natAbs := by omega
  have h2 := ha.lt; have h3 := hb.lt
  have h4 : 10 ^ m ≤ 10 ^ (m + n) := Nat.pow_le_pow_right (by decide) (by omega)
  have h5 : 10 ^ n ≤ 10 ^ (m + n) := Nat.pow_le_pow_right (by decide) (by omega)
  rw [Nat.pow_succ]
  omega
theorem fdivT {m n : Nat} {a b : ByteArray} {x y : Int} (W : World) (ha : Txt m a x) (hb : Txt n b y) (hm : m ≤ 9000000) (hn : n ≤ 9000000) (hy : y ≠ 0) : Calls Tryz.prog 89 #[.string a, .string b] W (Bret (.string (str (Lib.itoa (x.fdiv y)))) W) :=
  refFloorI a b x y W ha.text hb.text (by have := ha.size; omega) (by have := hb.size; omega) hy
theorem fmodT {m n : Nat} {a b : ByteArray} {x y : Int} (W : World) (ha : Txt m a x) (hb : Txt n b y) (hm : m ≤ 900000) (hn : n ≤ 900000) (hy : y ≠ 0) : Calls Tryz.prog 139 #[.string a, .string b] W (Bret (.string (str (Lib.itoa (x.fmod y)))) W) :=
  refRestI a b x y W ha.text hb.text (by have := ha.size; omega) (by have := hb.size; omega) hy
theorem prodT {m n : Nat} {a b : ByteArray} {x y : Int} (W : World) (ha : Txt m a x) (hb : Txt n b y) (hm : m ≤ 9000000) (hn : n ≤ 9000000) : Calls Tryz.prog 88 #[.string a, .string b] W (Bret (.string (str (Lib.itoa (x * y)))) W) :=
  refProductI a b x y W ha.text hb.text (by have := ha.size; omega) (by have := hb.size; omega)
theorem diffT {m n : Nat} {a b : ByteArray} {x y : Int} (W : World) (ha : Txt m a x) (hb : Txt n b y) (hm : m ≤ 9000000) (hn : n ≤ 9000000) : Calls Tryz.prog 150 #[.string a, .string b] W (Bret (.string (str (Lib.itoa (x - y)))) W) :=
  refDiffI a b x y W ha.text hb.text (by have := ha.size; omega) (by have := hb.size; omega)
theorem magT {m : Nat} {a : ByteArray} {x : Int} (W : World) (ha : Txt m a x) (hm : m ≤ 9000000) : Calls Tryz.prog 87 #[.string a] W fun e w' => e = .returned (.string (str (Lib.itoa (x.natAbs : Int)))) ∧ w' = W := refMagnitudeT a x W ha.text (by have := ha.size; omega)
theorem txt_abs {m : Nat} {a : ByteArray} {x : Int} (ha : Txt m a x) : Txt m (str (Lib.itoa (x.natAbs : Int))) (x.natAbs : Int) := Txt.of (by rw [Int.natAbs_natCast]; exact ha.len)
theorem BezInv.txts {B n : Nat} {g k x f : Int} (h : BezInv B g k x f) (h0 : 0 < n) (hB : B < 10 ^ n) : Txt n (str (Lib.itoa g)) g ∧ Txt n (str (Lib.itoa k)) k ∧ Txt n (str (Lib.itoa x)) x ∧ Txt n (str (Lib.itoa f)) f :=
  ⟨Txt.ofLt h0 (Nat.lt_of_le_of_lt h.gB hB), Txt.ofLt h0 (Nat.lt_of_le_of_lt h.nB hB), Txt.ofLt h0 (Nat.lt_of_le_of_lt h.xB hB), Txt.ofLt h0 (Nat.lt_of_le_of_lt h.fB hB)⟩

/-- What a round of the loop in Coefficients computes. -/
theorem coeff_round {n : Nat} {B : Nat} {r s x z : Int} (hn : n ≤ 100000) (h0 : 0 < n) (hB : B < 10 ^ n) (h : BezInv B r s x z) (hs : s ≠ 0) :
    (∀ W, Calls Tryz.prog 89 #[.string (str (Lib.itoa r)), .string (str (Lib.itoa s))] W (Bret (.string (str (Lib.itoa (r.fdiv s)))) W)) ∧
    (∀ W, Calls Tryz.prog 88 #[.string (str (Lib.itoa (r.fdiv s))), .string (str (Lib.itoa s))] W (Bret (.string (str (Lib.itoa (r.fdiv s * s)))) W)) ∧
    (∀ W, Calls Tryz.prog 150 #[.string (str (Lib.itoa r)), .string (str (Lib.itoa (r.fdiv s * s)))] W (Bret (.string (str (Lib.itoa (r - r.fdiv s * s)))) W)) ∧
    (∀ W, Calls Tryz.prog 88 #[.string (str (Lib.itoa (r.fdiv s))), .string (str (Lib.itoa z))] W (Bret (.string (str (Lib.itoa (r.fdiv s * z)))) W)) ∧
    (∀ W, Calls Tryz.prog 150 #[.string (str (Lib.itoa x)), .string (str (Lib.itoa (r.fdiv s * z)))] W (Bret (.string (str (Lib.itoa (x - r.fdiv s * z)))) W)) := by
  obtain ⟨t1, t2, t3, t4⟩ := h.txts h0 hB
  have t5 := txt_fdiv (y := s) t1 hs
  have t6 := txt_prod t5 t2
  have t7 := txt_prod t5 t4
  exact ⟨fun W => fdivT W t1 t2 (by omega) (by omega) hs, fun W => prodT W t5 t2 (by omega) (by omega), fun W => diffT W t1 t6 (by omega) (by omega), fun W => prodT W t5 t4 (by omega) (by omega), fun W => diffT W t3 t7 (by omega) (by omega)⟩
theorem s1' : str (Lib.itoa 1) = ⟨#[49]⟩ := lit_str s1
theorem s0' : str (Lib.itoa 0) = ⟨#[48]⟩ := lit_str str_zero

set_option maxHeartbeats 4000000 in
theorem coeff_pos (s t : ByteArray) (x y : Int) (w : World) (hs : Txt 100000 s x) (ht : Txt 100000 t y) (hy : y ≠ 0) :
    Calls Tryz.prog 94 #[.string s, .string t] w (Bret (.tuple #[.string (str (Lib.itoa (bezOf x y).2.1)), .string (str (Lib.itoa (bezOf x y).2.2))]) w) := by
  have hne := eq48 t (txt_zero ht.text hy)
  have C1 := fun W => magT W ht (by omega)
  have ta := txt_abs ht
  have C2 := fun W => fmodT (x := x) W hs ta (by omega) (by omega) (by omega)
  have I0 := BezInv.start y (x.fmod (y.natAbs : Int)) hy (fmod_nonneg _ _ (by omega)) (by have := fmod_natAbs_lt x (y.natAbs : Int) (by omega); omega)
  have hB := ht.lt
  have R := fun (r k X z : Int) (h : BezInv y.natAbs r k X z) (hk : k ≠ 0) => coeff_round (n := 100000) (by omega) (by omega) hB h hk
  -- behind the loop
  have E : ∀ r k X z : Int, BezInv y.natAbs r k X z → k = 0 → bezRun r k X z = bezRun (y.natAbs : Int) (x.fmod (y.natAbs : Int)) 0 1 →
      (∀ W, Calls Tryz.prog 89 #[.string (str (Lib.itoa (y.natAbs : Int))), .string (str (Lib.itoa r))] W (Bret (.string (str (Lib.itoa ((y.natAbs : Int).fdiv r)))) W)) ∧
      (∀ W, Calls Tryz.prog 139 #[.string (str (Lib.itoa X)), .string (str (Lib.itoa ((y.natAbs : Int).fdiv r)))] W (Bret (.string (str (Lib.itoa (bezOf x y).2.1))) W)) ∧
      (∀ W, Calls Tryz.prog 88 #[.string s, .string (str (Lib.itoa (bezOf x y).2.1))] W (Bret (.string (str (Lib.itoa (x * (bezOf x y).2.1)))) W)) ∧
      (∀ W, Calls Tryz.prog 150 #[.string (str (Lib.itoa r)), .string (str (Lib.itoa (x * (bezOf x y).2.1)))] W (Bret (.string (str (Lib.itoa (r - x * (bezOf x y).2.1)))) W)) ∧
      (∀ W, Calls Tryz.prog 89 #[.string (str (Lib.itoa (r - x * (bezOf x y).2.1))), .string t] W (Bret (.string (str (Lib.itoa (bezOf x y).2.2))) W)) := by
    intro r k X z h hk he
    subst hk
    rw [bezRun_zero] at he
    obtain ⟨t1, -, t3, -⟩ := h.txts (n := 100000) (by omega) hB
    have hr0 : r ≠ 0 := by have := h.g0; omega
    have hd0 : (y.natAbs : Int).fdiv r ≠ 0 := by
      intro h0
      have h1 := fmod_natAbs_lt (y.natAbs : Int) r hr0
      have h2 := step_fmod (y.natAbs : Int) r
      have h3 := bezRun_cong x y _ (y.natAbs : Int) (x.fmod (y.natAbs : Int)) 0 1 (Nat.le_refl _) (by omega) (fmod_nonneg _ _ (by omega)) (bez_start x y)
      rw [← he] at h3
      have h4 : r = ((Int.gcd x y : Nat) : Int) := h3.1
      have h5 : (Int.gcd x y) ≤ y.natAbs := Int.gcd_le_natAbs_right _ hy
      rw [h0] at h2
      omega
    have e1 : (bezOf x y).2.1 = X.fmod ((y.natAbs : Int).fdiv r) := by unfold bezOf; rw [if_neg hy]; dsimp only; rw [← he]
    have e2 : (bezOf x y).2.2 = (r - x * (bezOf x y).2.1).fdiv y := by rw [e1]; unfold bezOf; rw [if_neg hy]; dsimp only; rw [← he]
    have t5 := txt_fdiv (y := r) ta hr0
    have t6 : Txt 100000 (str (Lib.itoa (bezOf x y).2.1)) (bezOf x y).2.1 := by rw [e1]; exact txt_fmod t5 hd0
    have t7 := txt_prod hs t6
    have t8 := txt_sub t1 t7
    refine ⟨fun W => fdivT W ta t1 (by omega) (by omega) hr0, fun W => ?_, fun W => prodT W hs t6 (by omega) (by omega), fun W => diffT W t1 t7 (by omega) (by omega), fun W => ?_⟩
    · rw [e1]; exact fmodT W t3 t5 (by omega) (by omega) hd0
    · have := fdivT W t8 ht (by omega) (by omega) hy
      rwa [← e2] at this
  obtain ⟨c1, hc1⟩ : ∃ c, c = str (Lib.itoa (bezOf x y).2.1) := ⟨_, rfl⟩
  obtain ⟨c2, hc2⟩ : ∃ c, c = str (Lib.itoa (bezOf x y).2.2) := ⟨_, rfl⟩
  rw [← hc1, ← hc2]
  generalize hG : bezRun (y.natAbs : Int) (x.fmod (y.natAbs : Int)) 0 1 = G at *
  generalize (y.natAbs : Int) = ya at *
  generalize x.fmod ya = k0 at *
  have K1 := Lib.hid C1; have K2 := Lib.hid C2; have KR := Lib.hid R; have KE := Lib.hid E; have I := Lib.hid (And.intro I0 hG); have HC := Lib.hid (And.intro hc1 hc2)
  clear C1 C2 R E I0 hG ta hs ht hB hc1 hc2 hy
  generalize y.natAbs = B at *
  go_enter Tryz.func94, Tryz.ntmps94
  go_wp2_with (go_at_call 87; refine (K1.out _).mono ?_; rintro e w1 ⟨rfl, h⟩; subst h; refine Hid.out ?_)
  refine Lib.hid ?_
  go_wp2_with (go_at_call 87; refine (K1.out _).mono ?_; rintro e w2 ⟨rfl, h⟩; subst h; refine Hid.out ?_)
  refine Lib.hid ?_
  go_wp2_with (go_at_call 139; refine (K2.out _).mono ?_; rintro e w3 ⟨rfl, hb3⟩; refine Hid.out ?_)
  have HB3 := Lib.hid hb3; clear hb3
  refine Lib.hid ?_
  go_wp2_with fail
  go_loopw [6, 7, 8, 9] (fun rv sv xv zv wr => ∃ (r k X z : Int), rv = .string (str (Lib.itoa r)) ∧ sv = .string (str (Lib.itoa k)) ∧ xv = .string (str (Lib.itoa X)) ∧ zv = .string (str (Lib.itoa z)) ∧ BezInv B r k X z ∧ bezRun r k X z = G ∧ Below w2.heap.size w2 wr) (fun _ sv _ _ _ => (valZ (bytes (strOf sv))).natAbs)
  case atStart => exact ⟨ya, k0, 0, 1, rfl, rfl, by rw [s0'], by rw [s1'], I.out.1, I.out.2, HB3.out⟩
  case round =>
    obtain ⟨r, k, X, z, rfl, rfl, rfl, rfl, hI, hG, hbw⟩ := hrel
    have HB := Lib.hid hbw; clear hbw
    by_cases hk : k = 0
    · obtain ⟨E1, E2, E3, E4, E5⟩ := KE.out r k X z hI hk hG
      subst hk
      rw [← HC.out.1] at E2 E3
      rw [← HC.out.2] at E5
      rw [s0']
      generalize str (Lib.itoa (ya.fdiv r)) = f1 at *
      generalize str (Lib.itoa (x * (bezOf x y).2.1)) = f2 at *
      generalize str (Lib.itoa (r - x * (bezOf x y).2.1)) = f3 at *
      generalize str (Lib.itoa r) = sr at *
      generalize str (Lib.itoa X) = sx at *
      generalize str (Lib.itoa z) = sz at *
      have L1 := Lib.hid E1; have L2 := Lib.hid E2; have L3 := Lib.hid E3; have L4 := Lib.hid E4; have L5 := Lib.hid E5
      have A1 := Lib.hid K1.out
      clear E1 E2 E3 E4 E5 hI hG KR KE I HC K2 HB3
      go_wp2_with (go_at_call 87; refine (A1.out _).mono ?_; rintro e w11 ⟨rfl, h⟩; subst h; refine Hid.out ?_)
      refine Lib.hid ?_
      go_wp2_with (go_at_call 89; refine (L1.out _).mono ?_; rintro e w12 ⟨rfl, hb12⟩; refine Hid.out ?_)
      refine Lib.hid ?_
      go_wp2_with (go_at_call 139; refine (L2.out _).mono ?_; rintro e w13 ⟨rfl, hb13⟩; refine Hid.out ?_)
      have hB13 := Below.chain hb12 hb13; clear hb13 hb12
      refine Lib.hid ?_
      go_wp2_with (go_at_call 88; refine (L3.out _).mono ?_; rintro e w14 ⟨rfl, hb14⟩; refine Hid.out ?_)
      have hB14 := Below.chain hB13 hb14; clear hb14 hB13
      refine Lib.hid ?_
      go_wp2_with (go_at_call 150; refine (L4.out _).mono ?_; rintro e w15 ⟨rfl, hb15⟩; refine Hid.out ?_)
      have hB15 := Below.chain hB14 hb15; clear hb15 hB14
      refine Lib.hid ?_
      go_wp2_with (go_at_call 89; refine (L5.out _).mono ?_; rintro e w16 ⟨rfl, hb16⟩; refine Hid.out ?_)
      have hB16 := Below.chain hB15 hb16; clear hb16 hB15
      refine Lib.hid ?_
      go_wp2
      refine bodyPost_ret (v := .tuple #[.string c1, .string c2]) (by simp [results, Tryz.results94, go_sem]) rfl ?_
      exact ⟨rfl, Below.chain HB.out hB16⟩
    · obtain ⟨E1, E2, E3, E4, E5⟩ := KR.out r k X z hI hk
      have hI2 := hI.step hk
      have hG2 := hG
      rw [bezRun_step r k X z hk] at hG2
      have hm : (valZ (bytes (str (Lib.itoa (r - r.fdiv k * k))))).natAbs < (valZ (bytes (str (Lib.itoa k)))).natAbs := by
        rw [txt_str, valZ_itoa, txt_str, valZ_itoa, step_fmod]; exact fmod_natAbs_lt r k hk
      have hne := eq48 (str (Lib.itoa k)) (txt_zero (txt_str k) hk)
      generalize hr2 : r - r.fdiv k * k = r2 at *
      generalize hz2 : X - r.fdiv k * z = z2 at *
      have F := Lib.hid (And.intro hI2 (And.intro hG2 hm))
      generalize str (Lib.itoa (r.fdiv k * k)) = f2 at *
      generalize str (Lib.itoa (r.fdiv k * z)) = f3 at *
      generalize str (Lib.itoa (r.fdiv k)) = f1 at *
      generalize hq1 : str (Lib.itoa r) = sr at *
      generalize hq2 : str (Lib.itoa k) = sk at *
      generalize hq3 : str (Lib.itoa X) = sx at *
      generalize hq4 : str (Lib.itoa z) = sz at *
      generalize hq5 : str (Lib.itoa r2) = sr2 at *
      generalize hq6 : str (Lib.itoa z2) = sz2 at *
      have L1 := Lib.hid E1; have L2 := Lib.hid E2; have L3 := Lib.hid E3; have L4 := Lib.hid E4; have L5 := Lib.hid E5
      have Q := Lib.hid (And.intro hq1 (And.intro hq2 (And.intro hq3 (And.intro hq4 (And.intro hq5 hq6)))))
      clear E1 E2 E3 E4 E5 hI hG KR KE I HC K1 K2 HB3 hI2 hG2 hm hr2 hz2 hq1 hq2 hq3 hq4 hq5 hq6 hk
      go_wp2_with (go_at_call 89; refine (L1.out _).mono ?_; rintro e w11 ⟨rfl, hb11⟩; refine Hid.out ?_)
      refine Lib.hid ?_
      go_wp2_with (go_at_call 88; refine (L2.out _).mono ?_; rintro e w12 ⟨rfl, hb12⟩; refine Hid.out ?_)
      have hB12 := Below.chain hb11 hb12; clear hb12 hb11
      refine Lib.hid ?_
      go_wp2_with (go_at_call 150; refine (L3.out _).mono ?_; rintro e w13 ⟨rfl, hb13⟩; refine Hid.out ?_)
      have hB13 := Below.chain hB12 hb13; clear hb13 hB12
      refine Lib.hid ?_
      go_wp2_with (go_at_call 88; refine (L4.out _).mono ?_; rintro e w14 ⟨rfl, hb14⟩; refine Hid.out ?_)
      have hB14 := Below.chain hB13 hb14; clear hb14 hB13
      refine Lib.hid ?_
      go_wp2_with (go_at_call 150; refine (L5.out _).mono ?_; rintro e w15 ⟨rfl, hb15⟩; refine Hid.out ?_)
      have hB15 := Below.chain hB14 hb15; clear hb15 hB14
      refine Lib.hid ?_
      go_wp2
      obtain ⟨f1, f2, f3⟩ := F.out
      obtain ⟨q1, q2, q3, q4, q5, q6⟩ := Q.out
      go_roundw
      case rel => exact ⟨k, r2, z, z2, by rw [q2], by rw [q5], by rw [q4], by rw [q6], f1, f2, Below.chain HB.out hB15⟩
      case measure => exact f3

theorem coeff_zero (s : ByteArray) (x : Int) (w : World) (hs : Txt 100000 s x) :
    Calls Tryz.prog 94 #[.string s, .string ⟨#[48]⟩] w (Bret (.tuple #[.string (str (Lib.itoa (bezOf x 0).2.1)), .string (str (Lib.itoa (bezOf x 0).2.2))]) w) := by
  have C1 := fun W => refSign_txt s x W hs.text
  have hc := sgn_cases x
  have C2 := fun W => whole_any (cmpI x 0) W (by omega) (by omega)
  have e1 : (bezOf x 0).2.1 = cmpI x 0 := by
    show Int.sign x = _
    rcases hc with ⟨h, h1⟩ | ⟨h, h1⟩ | ⟨h, h1⟩
    · rw [h, Int.sign_eq_neg_one_of_neg h1]
    · rw [h, h1]; rfl
    · rw [h, Int.sign_eq_one_of_pos h1]
  have e2 : (bezOf x 0).2.2 = 0 := rfl
  rw [e1, e2, s0']
  generalize str (Lib.itoa (cmpI x 0)) = r at *
  generalize cmpI x 0 = c at *
  have K1 := Lib.hid C1; have K2 := Lib.hid C2; clear C1 C2 hs e1 e2 hc
  go_enter Tryz.func94, Tryz.ntmps94
  go_wp2_with (go_at_call 156; refine (K1.out _).mono ?_; rintro e w1 ⟨rfl, h⟩; subst h; refine Hid.out ?_)
  refine Lib.hid ?_
  go_wp2_with (go_at_call 141; refine (K2.out _).mono ?_; rintro e w2 ⟨rfl, h⟩; subst h; refine Hid.out ?_)
  refine Lib.hid ?_
  go_wp2
  refine bodyPost_ret (v := .tuple #[.string r, .string ⟨#[48]⟩]) (by simp [results, Tryz.results94, go_sem]) rfl ?_
  exact ⟨rfl, Below.refl _ _⟩

theorem refCoefficients (s t : ByteArray) (x y : Int) (w : World) (hs : Txt 100000 s x) (ht : Txt 100000 t y) :
    Calls Tryz.prog 94 #[.string s, .string t] w (Bret (.tuple #[.string (str (Lib.itoa (bezOf x y).2.1)), .string (str (Lib.itoa (bezOf x y).2.2))]) w) := by
  by_cases hy : y = 0
  · subst hy
    obtain rfl := txt_is_zero ht.text
    exact coeff_zero s x w hs
  · exact coeff_pos s t x y w hs ht hy
end Go.Proofs.YtbadibbdoljjhaaGreatDoor
