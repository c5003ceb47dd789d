import Derived.Test.YtbadibbdoljjhaaGreatDoorCut22
import Derived.Test.YtbadibbdoljjhaaGreatDoorCut28
import Derived.Test.YtbadibbdoljjhaaGreatDoorCut18
import Derived.Test.YtbadibbdoljjhaaGreatDoorCut19

set_option linter.unusedVariables false
/-
  The reference: Common, Coefficients.
-/
namespace Go.Proofs.YtbadibbdoljjhaaGreatDoor
open Go Go.Proofs Go.RowKit

/-- A string that is an integer with at most n digits. -/
structure Txt (n : Nat) (s : ByteArray) (z : Int) : Prop where
  text : bytes s = Lib.itoa z
  len : (Lib.decDigits z.natAbs).length ≤ n
theorem Txt.size {n : Nat} {s : ByteArray} {z : Int} (h : Txt n s z) : s.size ≤ n + 1 := by
  have h1 := txt_len h.text; have h2 := h.len; split at h1 <;> omega
theorem Txt.mono {m n : Nat} {s : ByteArray} {z : Int} (h : Txt m s z) (hn : m ≤ n) : Txt n s z := ⟨h.text, Nat.le_trans h.len hn⟩
theorem Txt.of {n : Nat} {z : Int} (h : (Lib.decDigits z.natAbs).length ≤ n) : Txt n (str (Lib.itoa z)) z := ⟨txt_str _, h⟩
theorem Txt.lt {n : Nat} {s : ByteArray} {z : Int} (h : Txt n s z) : z.natAbs < 10 ^ n := dec_pow h.len
theorem Txt.pos {n : Nat} {s : ByteArray} {z : Int} (h : Txt n s z) : 0 < n := by
  have := List.length_pos_iff.2 (decDigits_ne_nil z.natAbs); have := h.len; omega

end Go.Proofs.YtbadibbdoljjhaaGreatDoor

/-
  The laws' words on rational numbers: right, awake; playWhole, playBroken, playNumbers.
-/
namespace Go.Proofs.YtbadibbdoljjhaaGreatDoor
open Go Go.Proofs Go.RowKit

theorem StrsAt.on {w W : World} {b : Nat} {ss : List ByteArray} (h : StrsAt w b ss) (hb : b < w.heap.size) (g : Below w.heap.size w W) : StrsAt W b ss := fun j hj => (g.cell (p := ⟨b, j, none⟩) hb).trans (h j hj)
def wholeB (s : ByteArray) : Bool := decide (s.size ≤ 400) && decide (errOf (bytes s) = 0)

set_option maxHeartbeats 2000000 in
theorem playWhole_any (ss : List ByteArray) (b c : Nat) (w : World) (hr : StrsAt w b ss) (hb : b < w.heap.size) (hs : ∀ s ∈ ss, s.size ≤ 9223372036854775807) (hn : ss.length ≤ 1000) :
    Calls Tryz.prog 58 #[.slice (some ⟨b, 0, none⟩) ss.length c] w (Bret (.bool (ss.all wholeB)) w) := by
  have hr' : ∀ W, Below w.heap.size w W → StrsAt W b ss := fun W hW => hr.on hb hW
  have HC := Lib.hid hr'; have HS := Lib.hid hs
  clear hr hs hr' hb
  generalize hlen : ss.length = n at *
  have HLEN := Lib.hid hlen; clear hlen
  go_enter Tryz.func58, Tryz.ntmps58
  go_wp2_with fail
  go_loopw [7] (fun iv wr => ∃ k : Nat, k ≤ n ∧ iv = .int .i64 k ∧ (ss.take k).all wholeB = true ∧ Below w.heap.size w wr) (fun iv _ => n - (intOf iv).toNat)
  case atStart => exact ⟨0, Nat.zero_le _, rfl, rfl, Below.refl _ _⟩
  case round =>
    obtain ⟨k, hk, rfl, hall, hbw⟩ := hrel
    have HALL := Lib.hid hall; have HB := Lib.hid hbw; clear hall hbw
    by_cases hlt : k < n
    · have hlt' : k < ss.length := by rw [HLEN.out]; exact hlt
      have ck : wr.cell? ⟨b, k, none⟩ = some (.string (ss[k]'hlt')) := HC.out wr HB.out k hlt'
      have hz := HS.out _ (List.getElem_mem hlt')
      have hsucc := take_all_succ wholeB ss k hlt'
      rw [HALL.out, Bool.true_and] at hsucc
      have hbad := take_all_false wholeB ss k hlt'
      have HSU := Lib.hid hsucc; have HBA := Lib.hid hbad
      clear hsucc hbad
      generalize ss[k]'hlt' = sk at *
      by_cases hf : sk.size ≤ 400
      · have CC := refCheck_any sk wr hz
        rcases errOf_cases (bytes sk) with he | he | he
        · have hp : wholeB sk = true := by unfold wholeB; rw [he]; simp [hf]
          have e1 := HSU.out
          rw [hp] at e1
          have E1 := Lib.hid e1
          rw [he] at CC
          have KC := Lib.hid CC; clear CC e1 hp HSU HBA he
          go_wp2_with (go_at_call 55; refine KC.out.mono ?_; rintro e w3 ⟨rfl, h⟩; subst h; refine Hid.out ?_)
          refine Lib.hid ?_
          go_wp2
          go_roundw
          case rel => exact ⟨k + 1, by omega, by go_num, E1.out, HB.out⟩
          case measure => simp [intOf]; omega
        all_goals
          have hp : wholeB sk = false := by unfold wholeB; rw [he]; simp
          have E1 := Lib.hid (HBA.out hp)
          rw [he] at CC
          have KC := Lib.hid CC; clear CC hp HSU HBA he
          go_wp2_with (go_at_call 55; refine KC.out.mono ?_; rintro e w3 ⟨rfl, h⟩; subst h; refine Hid.out ?_)
          refine Lib.hid ?_
          go_wp2
          go_ret
          exact ⟨ret_bool E1.out.symm, HB.out⟩
      · have hp : wholeB sk = false := by unfold wholeB; simp [hf]
        have E1 := Lib.hid (HBA.out hp)
        clear hp HSU HBA
        go_wp2
        go_ret
        exact ⟨ret_bool E1.out.symm, HB.out⟩
    · have hkn : k = n := by omega
      subst hkn
      have e1 : ss.all wholeB = true := by
        have := HALL.out
        rwa [List.take_of_length_le (by rw [HLEN.out]; exact Nat.le_refl _)] at this
      have E1 := Lib.hid e1; clear e1
      go_wp2
      go_ret
      exact ⟨ret_bool E1.out.symm, HB.out⟩

/-- Numbers that stand in a program's text. -/
theorem rstr_lit {s : ByteArray} {q : Rat} (h : bytes s = ratL q) (h1 : (Lib.decDigits q.num.natAbs).length ≤ 4096) (h2 : (Lib.decDigits q.den).length ≤ 4096) : RStr s q :=
  ⟨h, str_itoa h1, str_itoa (by rwa [Int.natAbs_natCast])⟩
theorem ratR2_at {s t : ByteArray} {p q : Rat} (f : Rat → Rat → Value) (hs : RStr s p) (ht : RStr t q) : ratR2 f (bytes s) (bytes t) = f p q := by
  unfold ratR2 rerrBoth
  rw [hs.rerr, if_pos rfl, ht.rerr, if_pos rfl, hs.val, ht.val]
theorem opQ_lit {ok : Bool} {r q : Rat} {u : ByteArray} (h : ok = true) (e : r = q) (hu : RStr u q) : opQ ok r = .tuple #[.string u, .int .i64 0] := by
  unfold opQ; rw [if_pos h, e, hu.lit]
def q12 : Rat := ⟨1, 2, by decide, by decide⟩
theorem q12_str : RStr ⟨#[49, 47, 50]⟩ q12 := rstr_lit (by decide +kernel) (by decide +kernel) (by decide +kernel)
def q13 : Rat := ⟨1, 3, by decide, by decide⟩
theorem q13_str : RStr ⟨#[49, 47, 51]⟩ q13 := rstr_lit (by decide +kernel) (by decide +kernel) (by decide +kernel)
def q56 : Rat := ⟨5, 6, by decide, by decide⟩
theorem q56_str : RStr ⟨#[53, 47, 54]⟩ q56 := rstr_lit (by decide +kernel) (by decide +kernel) (by decide +kernel)
def q1 : Rat := ⟨1, 1, by decide, by decide⟩
def q0 : Rat := ⟨0, 1, by decide, by decide⟩
theorem sM3 : Str ⟨#[45, 51]⟩ (-3) := str_lit (by decide) (by decide) (by decide)
theorem s4 : Str ⟨#[52]⟩ 4 := str_lit (by decide) (by decide) (by decide)
theorem s3 : Str ⟨#[51]⟩ 3 := str_lit (by decide) (by decide) (by decide)
theorem sM6 : Str ⟨#[45, 54]⟩ (-6) := str_lit (by decide) (by decide) (by decide)
theorem sM21 : Str ⟨#[45, 50, 49]⟩ (-21) := str_lit (by decide) (by decide) (by decide)
set_option maxHeartbeats 4000000 in
theorem playNumbers_any (w : World) (htab : Lib.TabIs Tryz.prog w "internal/strconv.uint64pow10" .u64 Lib.pow10Tab) :
    Calls Tryz.prog 59 #[] w (Bret (.bool true) w) := by
  have hT := Lib.tabBelow_of_tabIs htab
  have C1 : ∀ W : World, Below w.heap.size w W → Calls Tryz.prog 57 #[.string ⟨#[55]⟩, .string ⟨#[45, 51]⟩] W (Bret (.tuple #[.string ⟨#[45, 50, 49]⟩, .int .i64 0]) W) := fun W hW => by
    have := mulZ _ _ _ _ W s7 sM3 (hT.on hW).here
    rwa [resV_lit' (s := ⟨#[45, 50, 49]⟩) (r := 7 * (-3)) sM21 (by decide)] at this
  have C2 : ∀ W : World, Below w.heap.size w W → Calls Tryz.prog 65 #[.string ⟨#[45, 50, 49]⟩, .string ⟨#[52]⟩] W (Bret (.tuple #[.string ⟨#[45, 54]⟩, .int .i64 0]) W) := fun W hW => by
    have := quoZ _ _ _ _ W sM21 s4 (by decide) (hT.on hW).here
    rwa [resV_lit' (s := ⟨#[45, 54]⟩) (r := (-21 : Int).fdiv 4) sM6 (by decide)] at this
  have C3 : ∀ W : World, Below w.heap.size w W → Calls Tryz.prog 66 #[.string ⟨#[45, 50, 49]⟩, .string ⟨#[52]⟩] W (Bret (.tuple #[.string ⟨#[51]⟩, .int .i64 0]) W) := fun W hW => by
    have := remZ _ _ _ _ W sM21 s4 (by decide) (hT.on hW).here
    rwa [resV_lit' (s := ⟨#[51]⟩) (r := (-21 : Int).fmod 4) s3 (by decide)] at this
  have C4 : ∀ W : World, Below w.heap.size w W → Calls Tryz.prog 43 #[.string ⟨#[49, 47, 50]⟩, .string ⟨#[49, 47, 51]⟩] W (Bret (.tuple #[.string ⟨#[53, 47, 54]⟩, .int .i64 0]) W) := fun W hW => by
    have := ratAdd ⟨#[49, 47, 50]⟩ ⟨#[49, 47, 51]⟩ W (by decide) (by decide) (hT.on hW).here
    rwa [ratR2_at addQ q12_str q13_str, show addQ q12 q13 = _ from opQ_lit (by decide +kernel) (by decide +kernel) q56_str] at this
  have K1 := Lib.hid C1; have K2 := Lib.hid C2; have K3 := Lib.hid C3; have K4 := Lib.hid C4
  clear C1 C2 C3 C4 htab hT
  go_enter Tryz.func59, Tryz.ntmps59
  go_wp2_with (go_at_call 57; refine (K1.out _ (Below.refl _ _)).mono ?_; rintro e w1 ⟨rfl, hb1⟩; refine Hid.out ?_)
  refine Lib.hid ?_
  go_wp2_with (go_at_call 65; refine (K2.out _ hb1).mono ?_; rintro e w2 ⟨rfl, hb2⟩; refine Hid.out ?_)
  have hB2 := Below.chain hb1 hb2; clear hb2 hb1
  refine Lib.hid ?_
  go_wp2_with (go_at_call 66; refine (K3.out _ hB2).mono ?_; rintro e w3 ⟨rfl, hb3⟩; refine Hid.out ?_)
  have hB3 := Below.chain hB2 hb3; clear hb3 hB2
  refine Lib.hid ?_
  go_wp2_with (go_at_call 43; refine (K4.out _ hB3).mono ?_; rintro e w4 ⟨rfl, hb4⟩; refine Hid.out ?_)
  have hB4 := Below.chain hB3 hb4; clear hb4 hB3
  refine Lib.hid ?_
  go_wp2
  refine bodyPost_ret (v := .bool true) (by simp [results, Tryz.results59, go_sem]) rfl ?_
  exact ⟨rfl, hB4⟩
end Go.Proofs.YtbadibbdoljjhaaGreatDoor

/-
  BigintRing: the walk.
-/
namespace Go.Proofs.YtbadibbdoljjhaaGreatDoor
open Go Go.Proofs Go.RowKit

def Sz (k : Nat) (x : Int) : Prop := x.natAbs < 10 ^ k
theorem Sz.mono {j k : Nat} {x : Int} (h : Sz j x) (hjk : j ≤ k) : Sz k x := Nat.lt_of_lt_of_le h (Nat.pow_le_pow_right (by decide) hjk)
theorem Sz.add {k : Nat} {x y : Int} (h1 : Sz k x) (h2 : Sz k y) : Sz (k + 1) (x + y) := by
  unfold Sz at *
  rw [Nat.pow_succ]
  generalize (10 : Nat) ^ k = p at *
  omega
theorem Sz.neg {k : Nat} {x : Int} (h : Sz k x) : Sz k (-x) := by unfold Sz at *; rwa [Int.natAbs_neg]
theorem Sz.mul {j k : Nat} {x y : Int} (h1 : Sz j x) (h2 : Sz k y) : Sz (j + k) (x * y) := by
  unfold Sz at *
  rw [Int.natAbs_mul, Nat.pow_add]
  exact Nat.mul_lt_mul'' h1 h2
theorem Sz.fits {k : Nat} {x : Int} (h : Sz k x) (h0 : 0 < k) (hk : k ≤ 4096) : ¬ 4096 < (Lib.decDigits x.natAbs).length := fits_of_lt k h h0 hk
theorem Sz.str {k : Nat} {x : Int} (h : Sz k x) (h0 : 0 < k) (hk : k ≤ 4096) : Str (str (Lib.itoa x)) x := str_itoa (Nat.le_of_not_lt (h.fits h0 hk))

theorem all_three (p : ByteArray → Bool) (s t u : ByteArray) : [s, t, u].all p = (p s && (p t && p u)) := by simp

end Go.Proofs.YtbadibbdoljjhaaGreatDoor

/-
  rational: sizes; its functions at numbers that are short enough.
-/
namespace Go.Proofs.YtbadibbdoljjhaaGreatDoor
open Go Go.Proofs Go.RowKit

/-- The numerator and the denominator have at most k digits. -/
structure RZ (k : Nat) (q : Rat) : Prop where
  num : Sz k q.num
  den : Sz k (q.den : Int)
theorem RZ.mono {j k : Nat} {q : Rat} (h : RZ j q) (hk : j ≤ k) : RZ k q := ⟨h.num.mono hk, h.den.mono hk⟩
theorem RZ.pos {k : Nat} {q : Rat} (h : RZ k q) : 0 < k := by
  have h1 := h.den; have h2 := q.den_pos
  unfold Sz at h1
  rcases Nat.eq_zero_or_pos k with rfl | hk
  · simp at h1; omega
  · exact hk
theorem RZ.rs {k : Nat} {q : Rat} (h : RZ k q) (hk : k ≤ 4096) : RatS q := ⟨h.num.str h.pos hk, h.den.str h.pos hk⟩
theorem RZ.divInt {k : Nat} {x y : Int} (hx : Sz k x) (hy : Sz k y) (h0 : y ≠ 0) : RZ k (Rat.divInt x y) := by
  obtain ⟨e1, e2⟩ := reduced_parts (x := x) h0
  have hg := sgcd_ne (x := x) h0
  refine ⟨?_, ?_⟩
  · rw [← e1]; exact Nat.lt_of_le_of_lt (fdiv_le x _ hg) hx
  · rw [← e2]; exact Nat.lt_of_le_of_lt (fdiv_le y _ hg) hy
theorem RZ.cross {i j : Nat} {p q : Rat} (hp : RZ i p) (hq : RZ j q) : Sz (i + j) (p.num * q.den) ∧ Sz (i + j) (q.num * p.den) ∧ Sz (i + j) ((p.den : Int) * q.den) ∧ Sz (i + j) (p.num * q.num) ∧ Sz (i + j) ((p.den : Int) * q.num) :=
  ⟨hp.num.mul hq.den, by rw [Nat.add_comm]; exact hq.num.mul hp.den, hp.den.mul hq.den, hp.num.mul hq.num, hp.den.mul hq.num⟩
theorem RZ.add {i j : Nat} {p q : Rat} (hp : RZ i p) (hq : RZ j q) : RZ (i + j + 1) (p + q) := by
  obtain ⟨h1, h2, h3, -, -⟩ := hp.cross hq
  rw [← divInt_add]
  exact RZ.divInt (h1.add h2) (h3.mono (by omega)) (den_mul_ne p q)
theorem RZ.mul {i j : Nat} {p q : Rat} (hp : RZ i p) (hq : RZ j q) : RZ (i + j) (p * q) := by
  obtain ⟨-, -, h3, h4, -⟩ := hp.cross hq
  rw [← divInt_mul]
  exact RZ.divInt h4 h3 (den_mul_ne p q)
theorem RZ.neg {i : Nat} {p : Rat} (hp : RZ i p) : RZ i (-p) := ⟨by rw [Rat.neg_num]; exact hp.num.neg, by rw [Rat.neg_den]; exact hp.den⟩
theorem ratL_len (q : Rat) : (ratL q).length ≤ (Lib.itoa q.num).length + (Lib.itoa (q.den : Int)).length + 1 := by
  unfold ratL; split
  · omega
  · rw [List.length_append, List.length_cons]; omega
theorem RStr.size {s : ByteArray} {q : Rat} (h : RStr s q) : s.size ≤ 9000 := by
  have h1 : (bytes s).length = s.size := rfl
  have h2 := ratL_len q
  have h3 := h.rs.num.size; have h4 := h.rs.den.size
  rw [str_size] at h3 h4
  rw [h.text] at h1
  omega
theorem RStr.short {s : ByteArray} {q : Rat} {k : Nat} (h : RStr s q) (hs : s.size ≤ k) (h0 : 0 < k) : RZ k q := by
  have h1 : (bytes s).length = s.size := rfl
  rw [h.text] at h1
  have ha : (Lib.itoa q.num).length ≤ k ∧ (Lib.itoa (q.den : Int)).length ≤ k := by
    unfold ratL at h1
    split at h1
    · next hd => rw [hd]; refine ⟨by omega, ?_⟩; rw [show Lib.itoa ((1 : Nat) : Int) = [49] from itoa_one]; simp; omega
    · rw [List.length_append, List.length_cons] at h1; omega
  have hb : ∀ z : Int, (Lib.itoa z).length ≤ k → Sz k z := fun z hz => by
    have : (Lib.decDigits z.natAbs).length ≤ (Lib.itoa z).length := by
      by_cases hn : z < 0
      · rw [itoa_neg hn]; simp
      · rw [itoa_nonneg hn]; exact Nat.le_refl _
    exact dec_pow (by omega)
  exact ⟨hb _ ha.1, hb _ ha.2⟩

end Go.Proofs.YtbadibbdoljjhaaGreatDoor

