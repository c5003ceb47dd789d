import Derived.Test.YtbadibbdoljjhaaGreatDoorCut22
import Derived.Test.YtbadibbdoljjhaaGreatDoorCut13
import Derived.Test.YtbadibbdoljjhaaGreatDoorDw1
import Derived.Test.YtbadibbdoljjhaaGreatDoorCut16
import Derived.Test.YtbadibbdoljjhaaGreatDoorCut14
import Derived.Test.YtbadibbdoljjhaaGreatDoorDw2
import Derived.Test.YtbadibbdoljjhaaGreatDoorCut20
import Derived.Test.YtbadibbdoljjhaaGreatDoorCut28
import Derived.Test.YtbadibbdoljjhaaGreatDoorCut18
import Derived.Test.YtbadibbdoljjhaaGreatDoorCut19

set_option linter.unusedVariables false
/-
  Bezout's loop on integers: what it tells.
-/
namespace Go.Proofs.YtbadibbdoljjhaaGreatDoor
open Go Go.Proofs

theorem bezRun_cong (a b : Int) : ∀ (k : Nat) (g n x f : Int), n.natAbs ≤ k → 0 < g → 0 ≤ n → BezCong a b g n x f → (bezRun g n x f).1 = Int.gcd a b ∧ b ∣ (bezRun g n x f).1 - a * (bezRun g n x f).2 := by
  intro k
  induction k with
  | zero =>
    intro g n x f hk hg _ h
    have : n = 0 := by omega
    subst this
    rw [bezRun_zero]
    refine ⟨?_, h.eg⟩
    rw [← h.gcd, Int.gcd_zero_right]; show g = _; omega
  | succ k ih =>
    intro g n x f hk hg hn0 h
    by_cases hn : n = 0
    · subst hn
      rw [bezRun_zero]
      refine ⟨?_, h.eg⟩
      rw [← h.gcd, Int.gcd_zero_right]; show g = _; omega
    · rw [bezRun_step g n x f hn]
      have := fmod_natAbs_lt g n hn
      have hz := fmod_nonneg g n (by omega)
      refine ih _ _ _ _ (by rw [step_fmod]; omega) (by omega) (by rw [step_fmod]; exact hz) h.step

theorem dvd_natAbs_self (b : Int) : b ∣ (b.natAbs : Int) := Int.dvd_natAbs.2 (Int.dvd_refl b)
theorem bez_start (a b : Int) : BezCong a b (b.natAbs : Int) (a.fmod (b.natAbs : Int)) 0 1 := by
  refine ⟨?_, ?_, ?_⟩
  · have e := step_fmod a (b.natAbs : Int)
    rw [← e]
    generalize a.fdiv (b.natAbs : Int) = q
    refine Nat.dvd_antisymm ?_ ?_
    · have h1 : ((Int.gcd (b.natAbs : Int) (a - q * (b.natAbs : Int)) : Nat) : Int) ∣ (b.natAbs : Int) := Int.gcd_dvd_left ..
      refine Int.dvd_gcd ?_ (Int.dvd_natAbs.1 h1)
      have e : a = (a - q * (b.natAbs : Int)) + q * (b.natAbs : Int) := by omega
      have h2 : ((Int.gcd (b.natAbs : Int) (a - q * (b.natAbs : Int)) : Nat) : Int) ∣ (a - q * (b.natAbs : Int)) := Int.gcd_dvd_right ..
      have h3 := Int.dvd_add h2 (Int.dvd_mul_of_dvd_right (b := q) h1)
      rwa [← e] at h3
    · have h1 : ((Int.gcd a b : Nat) : Int) ∣ (b.natAbs : Int) := Int.dvd_natAbs.2 (Int.gcd_dvd_right ..)
      exact Int.dvd_gcd h1 (Int.dvd_sub (Int.gcd_dvd_left ..) (Int.dvd_mul_of_dvd_right h1))
  · rw [Int.mul_zero, Int.sub_zero]; exact dvd_natAbs_self b
  · rw [Int.mul_one]
    have e := step_fmod a (b.natAbs : Int)
    have e2 : a.fmod (b.natAbs : Int) - a = -(a.fdiv (b.natAbs : Int) * (b.natAbs : Int)) := by omega
    rw [e2]
    exact Int.dvd_neg.2 (Int.dvd_mul_of_dvd_right (dvd_natAbs_self b))

theorem fdiv_exact {z b : Int} (hb : b ≠ 0) (h : b ∣ z) : z.fdiv b * b = z := by
  obtain ⟨k, rfl⟩ := h
  rw [Int.mul_fdiv_cancel_left _ hb, Int.mul_comm]

theorem bezOf_spec (a b : Int) : (bezOf a b).1 = Int.gcd a b ∧ a * (bezOf a b).2.1 + b * (bezOf a b).2.2 = Int.gcd a b ∧ (bezOf a b).2.1.natAbs ≤ b.natAbs + 1 ∧ (bezOf a b).2.2.natAbs ≤ a.natAbs + 1 := by
  unfold bezOf
  by_cases hb : b = 0
  · rw [if_pos hb]
    subst hb
    refine ⟨by rw [Int.gcd_zero_right], ?_, ?_, ?_⟩
    · show a * a.sign + 0 * 0 = _
      rw [Int.gcd_zero_right, Int.mul_sign_self]; omega
    · show a.sign.natAbs ≤ _
      rw [Int.natAbs_sign]; split <;> omega
    · show (0 : Int).natAbs ≤ _
      omega
  · rw [if_neg hb]
    have hn := fmod_natAbs_lt a (b.natAbs : Int) (by omega)
    have hz := fmod_nonneg a (b.natAbs : Int) (by omega)
    have hI := bezRun_inv b.natAbs _ _ _ _ _ (Nat.le_refl _) (BezInv.start b (a.fmod (b.natAbs : Int)) hb hz (by omega))
    have hC := bezRun_cong a b _ (b.natAbs : Int) (a.fmod (b.natAbs : Int)) 0 1 (Nat.le_refl _) (by omega) hz (bez_start a b)
    dsimp only
    generalize bezRun (b.natAbs : Int) (a.fmod (b.natAbs : Int)) 0 1 = r at *
    obtain ⟨G, X⟩ := r
    dsimp only at hI hC ⊢
    obtain ⟨hG, hdv⟩ := hC
    obtain ⟨hG0, hGB, -⟩ := hI
    have hGa : G ∣ a := by rw [hG]; exact Int.gcd_dvd_left ..
    have hGb : G ∣ (b.natAbs : Int) := by rw [hG]; exact Int.dvd_natAbs.2 (Int.gcd_dvd_right ..)
    have hD := fdiv_exact (by omega) hGb
    generalize (b.natAbs : Int).fdiv G = D at *
    have hD0 : D ≠ 0 := fun e => by rw [e] at hD; omega
    have hX := fmod_natAbs_lt X D hD0
    have eX := step_fmod X D
    have hDb : D.natAbs ≤ b.natAbs := by
      have e : D.natAbs * G.natAbs = b.natAbs := by rw [← Int.natAbs_mul, hD]; omega
      rw [← e]
      exact Nat.le_mul_of_pos_right _ (by omega)
    have haD : b ∣ a * D := by
      obtain ⟨k, hk⟩ := hGa
      have e : a * D = k * (b.natAbs : Int) := by rw [hk, ← hD, Int.mul_comm G k, Int.mul_assoc, Int.mul_comm G D]
      rw [e]
      exact Int.dvd_mul_of_dvd_right (dvd_natAbs_self b)
    have hfin : b ∣ G - a * X.fmod D := by
      rw [← eX]
      have e : G - a * (X - X.fdiv D * D) = (G - a * X) + X.fdiv D * (a * D) := by
        rw [Int.mul_sub, Int.mul_left_comm a (X.fdiv D) D]; omega
      rw [e]
      exact Int.dvd_add hdv (Int.dvd_mul_of_dvd_right haD)
    have hq := fdiv_exact hb hfin
    generalize X.fmod D = X' at *
    generalize (G - a * X').fdiv b = q at *
    refine ⟨hG, by rw [Int.mul_comm b q, ← hG]; omega, by omega, ?_⟩
    have h1 : q.natAbs * b.natAbs ≤ (a.natAbs + 1) * b.natAbs := by
      rw [← Int.natAbs_mul, hq]
      have h2 : (G - a * X').natAbs ≤ G.natAbs + (a * X').natAbs := by omega
      have h3 : (a * X').natAbs ≤ a.natAbs * b.natAbs := by rw [Int.natAbs_mul]; exact Nat.mul_le_mul_left _ (by omega)
      rw [Nat.add_mul]
      omega
    exact Nat.le_of_mul_le_mul_right h1 (by omega)

theorem fmod_of_dvd {x g : Int} (h : g ∣ x) : x.fmod g = 0 := Int.fmod_eq_zero_of_dvd h
end Go.Proofs.YtbadibbdoljjhaaGreatDoor

/-
  bigint: Gcd, Lcm, Bezout for all strings.
-/
namespace Go.Proofs.YtbadibbdoljjhaaGreatDoor
open Go Go.Proofs Go.RowKit

/-- The least common multiple. -/
def lcmI (x y : Int) : Int := (((x.fdiv (gcdI x y)) * y).natAbs : Int)
set_option maxHeartbeats 2000000 in
theorem bigLcmR (s t : ByteArray) (w : World) (hs : s.size ≤ 9223372036854775807) (ht : t.size ≤ 9223372036854775807) (htab : Lib.TabIs Tryz.prog w "internal/strconv.uint64pow10" .u64 Lib.pow10Tab) :
    Calls Tryz.prog 21 #[.string s, .string t] w (Bret (opR lcmI (bytes s) (bytes t)) w) := by
  have hT := Lib.tabBelow_of_tabIs htab
  have C1 : ∀ W : World, Below w.heap.size w W → Calls Tryz.prog 19 #[.string s, .string t] W (Bret (opR gcdI (bytes s) (bytes t)) W) := fun W hW => bigGcdR s t W hs ht (hT.on hW).here
  unfold opR at *
  by_cases h : errBoth (bytes s) (bytes t) = 0
  · rw [if_pos h] at C1 ⊢
    obtain ⟨h1, h2⟩ := errBoth_zero h
    have q1 := str_of_err h1; have q2 := str_of_err h2
    generalize valZ (bytes s) = x at *
    generalize valZ (bytes t) = y at *
    rw [resV_lit (gcd_fits q1 q2)] at C1
    by_cases hz : gcdI x y = 0
    · obtain ⟨rfl, rfl⟩ := gcdI_zero.1 hz
      have e : resV (lcmI 0 0) = .tuple #[.string ⟨#[48]⟩, .int .i64 0] := resV_lit' str_zero (by unfold lcmI; simp)
      rw [e]
      rw [hz, lit_str str_zero] at C1
      have K1 := Lib.hid C1; clear C1 hs ht htab hT h h1 h2 q1 q2 hz e
      go_enter Tryz.func21, Tryz.ntmps21
      go_wp2_with (go_at_call 19; refine (K1.out _ (Below.refl _ _)).mono ?_; rintro e w1 ⟨rfl, hb1⟩; refine Hid.out ?_)
      refine Lib.hid ?_
      go_wp2
      refine bodyPost_ret (by simp [results, Tryz.results21, go_sem]; rfl) rfl ?_
      exact ⟨rfl, hb1⟩
    · have q3 := gcd_fits q1 q2
      have hne := eq48 _ (q3.ne_zero hz)
      have hq := fdiv_len (t := t) q1 hz
      have C2 : ∀ W : World, Below w.heap.size w W → Calls Tryz.prog 65 #[.string s, .string (str (Lib.itoa (gcdI x y)))] W (Bret (.tuple #[.string (str (Lib.itoa (x.fdiv (gcdI x y)))), .int .i64 0]) W) := fun W hW => by
        have := quoZ s _ x (gcdI x y) W q1 q3 hz (hT.on hW).here
        rwa [resV_lit hq] at this
      have C3 : ∀ W : World, Below w.heap.size w W → Calls Tryz.prog 57 #[.string (str (Lib.itoa (x.fdiv (gcdI x y)))), .string t] W (Bret (resV (x.fdiv (gcdI x y) * y)) W) := fun W hW => mulZ _ t _ y W hq q2 (hT.on hW).here
      by_cases hf : 4096 < (Lib.decDigits (x.fdiv (gcdI x y) * y).natAbs).length
      · rw [resV_long hf] at C3
        have e : resV (lcmI x y) = .tuple #[.string ⟨#[]⟩, .int .i64 10] := by
          refine resV_long ?_
          unfold lcmI
          rwa [Int.natAbs_natCast]
        rw [e]
        generalize str (Lib.itoa (x.fdiv (gcdI x y))) = r2 at *
        generalize str (Lib.itoa (gcdI x y)) = r1 at *
        have K1 := Lib.hid C1; have K2 := Lib.hid C2; have K3 := Lib.hid C3
        clear C1 C2 C3 hs ht htab hT h h1 h2 q1 q2 q3 hz hq hf e
        go_enter Tryz.func21, Tryz.ntmps21
        go_wp2_with (go_at_call 19; refine (K1.out _ (Below.refl _ _)).mono ?_; rintro e w1 ⟨rfl, hb1⟩; refine Hid.out ?_)
        refine Lib.hid ?_
        go_wp2_with (go_at_call 65; refine (K2.out _ hb1).mono ?_; rintro e w2 ⟨rfl, hb2⟩; refine Hid.out ?_)
        have hB2 := Below.chain hb1 hb2; clear hb2 hb1
        refine Lib.hid ?_
        go_wp2_with (go_at_call 57; refine (K3.out _ hB2).mono ?_; rintro e w3 ⟨rfl, hb3⟩; refine Hid.out ?_)
        have hB3 := Below.chain hB2 hb3; clear hb3 hB2
        refine Lib.hid ?_
        go_wp2
        refine bodyPost_ret (by simp [results, Tryz.results21, go_sem]; rfl) rfl ?_
        exact ⟨rfl, hB3⟩
      · rw [resV_fits hf] at C3
        have q4 : Str (str (Lib.itoa (x.fdiv (gcdI x y) * y))) (x.fdiv (gcdI x y) * y) := str_itoa (Nat.le_of_not_lt hf)
        have C4 := fun W => absZ _ _ W q4
        have e : resV (lcmI x y) = .tuple #[.string (str (Lib.itoa (lcmI x y))), .int .i64 0] := resV_fits (by unfold lcmI; rwa [Int.natAbs_natCast])
        rw [e]
        unfold lcmI
        generalize str (Lib.itoa (((x.fdiv (gcdI x y)) * y).natAbs : Int)) = r4 at *
        generalize str (Lib.itoa (x.fdiv (gcdI x y) * y)) = r3 at *
        generalize str (Lib.itoa (x.fdiv (gcdI x y))) = r2 at *
        generalize str (Lib.itoa (gcdI x y)) = r1 at *
        have K1 := Lib.hid C1; have K2 := Lib.hid C2; have K3 := Lib.hid C3; have K4 := Lib.hid C4
        clear C1 C2 C3 C4 hs ht htab hT h h1 h2 q1 q2 q3 q4 hz hq hf e
        go_enter Tryz.func21, Tryz.ntmps21
        go_wp2_with (go_at_call 19; refine (K1.out _ (Below.refl _ _)).mono ?_; rintro e w1 ⟨rfl, hb1⟩; refine Hid.out ?_)
        refine Lib.hid ?_
        go_wp2_with (go_at_call 65; refine (K2.out _ hb1).mono ?_; rintro e w2 ⟨rfl, hb2⟩; refine Hid.out ?_)
        have hB2 := Below.chain hb1 hb2; clear hb2 hb1
        refine Lib.hid ?_
        go_wp2_with (go_at_call 57; refine (K3.out _ hB2).mono ?_; rintro e w3 ⟨rfl, hb3⟩; refine Hid.out ?_)
        have hB3 := Below.chain hB2 hb3; clear hb3 hB2
        refine Lib.hid ?_
        go_wp2_with (go_at_call 64; refine (K4.out _).mono ?_; rintro e w4 ⟨rfl, h⟩; subst h; refine Hid.out ?_)
        refine Lib.hid ?_
        go_wp2
        refine bodyPost_ret (by simp [results, Tryz.results21, go_sem]; rfl) rfl ?_
        exact ⟨rfl, hB3⟩
  · rw [if_neg h] at C1 ⊢
    have hc := errBoth_cases (bytes s) (bytes t)
    unfold errV at *
    generalize errBoth (bytes s) (bytes t) = c at *
    have K1 := Lib.hid C1; clear C1 hs ht htab hT
    rcases hc with rfl | rfl | rfl
    · exact absurd rfl h
    all_goals
      clear h
      go_enter Tryz.func21, Tryz.ntmps21
      go_wp2_with (go_at_call 19; refine (K1.out _ (Below.refl _ _)).mono ?_; rintro e w1 ⟨rfl, hb1⟩; refine Hid.out ?_)
      refine Lib.hid ?_
      go_wp2
      refine bodyPost_ret (by simp [results, Tryz.results21, go_sem]; rfl) rfl ?_
      exact ⟨rfl, hb1⟩

end Go.Proofs.YtbadibbdoljjhaaGreatDoor

/-
  The reference: Common, Coefficients.
-/
namespace Go.Proofs.YtbadibbdoljjhaaGreatDoor
open Go Go.Proofs Go.RowKit

/-- A string that is an integer with at most n digits. -/
structure Txt (n : Nat) (s : ByteArray) (z : Int) : Prop where
  text : bytes s = Lib.itoa z
  len : (Lib.decDigits z.natAbs).length ≤ n
theorem Txt.size {n : Nat} {s : ByteArray} {z : Int} (h : Txt n s z) : s.size ≤ n + 1 := by
  have h1 := txt_len h.text; have h2 := h.len; split at h1 <;> omega
theorem Txt.mono {m n : Nat} {s : ByteArray} {z : Int} (h : Txt m s z) (hn : m ≤ n) : Txt n s z := ⟨h.text, Nat.le_trans h.len hn⟩
theorem Txt.of {n : Nat} {z : Int} (h : (Lib.decDigits z.natAbs).length ≤ n) : Txt n (str (Lib.itoa z)) z := ⟨txt_str _, h⟩
theorem Txt.lt {n : Nat} {s : ByteArray} {z : Int} (h : Txt n s z) : z.natAbs < 10 ^ n := dec_pow h.len
theorem Txt.pos {n : Nat} {s : ByteArray} {z : Int} (h : Txt n s z) : 0 < n := by
  have := List.length_pos_iff.2 (decDigits_ne_nil z.natAbs); have := h.len; omega

end Go.Proofs.YtbadibbdoljjhaaGreatDoor

/-
  The laws' words on rational numbers: right, awake; playWhole, playBroken, playNumbers.
-/
namespace Go.Proofs.YtbadibbdoljjhaaGreatDoor
open Go Go.Proofs Go.RowKit

theorem StrsAt.on {w W : World} {b : Nat} {ss : List ByteArray} (h : StrsAt w b ss) (hb : b < w.heap.size) (g : Below w.heap.size w W) : StrsAt W b ss := fun j hj => (g.cell (p := ⟨b, j, none⟩) hb).trans (h j hj)
def wholeB (s : ByteArray) : Bool := decide (s.size ≤ 400) && decide (errOf (bytes s) = 0)

set_option maxHeartbeats 2000000 in
theorem playWhole_any (ss : List ByteArray) (b c : Nat) (w : World) (hr : StrsAt w b ss) (hb : b < w.heap.size) (hs : ∀ s ∈ ss, s.size ≤ 9223372036854775807) (hn : ss.length ≤ 1000) :
    Calls Tryz.prog 58 #[.slice (some ⟨b, 0, none⟩) ss.length c] w (Bret (.bool (ss.all wholeB)) w) := by
  have hr' : ∀ W, Below w.heap.size w W → StrsAt W b ss := fun W hW => hr.on hb hW
  have HC := Lib.hid hr'; have HS := Lib.hid hs
  clear hr hs hr' hb
  generalize hlen : ss.length = n at *
  have HLEN := Lib.hid hlen; clear hlen
  go_enter Tryz.func58, Tryz.ntmps58
  go_wp2_with fail
  go_loopw [7] (fun iv wr => ∃ k : Nat, k ≤ n ∧ iv = .int .i64 k ∧ (ss.take k).all wholeB = true ∧ Below w.heap.size w wr) (fun iv _ => n - (intOf iv).toNat)
  case atStart => exact ⟨0, Nat.zero_le _, rfl, rfl, Below.refl _ _⟩
  case round =>
    obtain ⟨k, hk, rfl, hall, hbw⟩ := hrel
    have HALL := Lib.hid hall; have HB := Lib.hid hbw; clear hall hbw
    by_cases hlt : k < n
    · have hlt' : k < ss.length := by rw [HLEN.out]; exact hlt
      have ck : wr.cell? ⟨b, k, none⟩ = some (.string (ss[k]'hlt')) := HC.out wr HB.out k hlt'
      have hz := HS.out _ (List.getElem_mem hlt')
      have hsucc := take_all_succ wholeB ss k hlt'
      rw [HALL.out, Bool.true_and] at hsucc
      have hbad := take_all_false wholeB ss k hlt'
      have HSU := Lib.hid hsucc; have HBA := Lib.hid hbad
      clear hsucc hbad
      generalize ss[k]'hlt' = sk at *
      by_cases hf : sk.size ≤ 400
      · have CC := refCheck_any sk wr hz
        rcases errOf_cases (bytes sk) with he | he | he
        · have hp : wholeB sk = true := by unfold wholeB; rw [he]; simp [hf]
          have e1 := HSU.out
          rw [hp] at e1
          have E1 := Lib.hid e1
          rw [he] at CC
          have KC := Lib.hid CC; clear CC e1 hp HSU HBA he
          go_wp2_with (go_at_call 55; refine KC.out.mono ?_; rintro e w3 ⟨rfl, h⟩; subst h; refine Hid.out ?_)
          refine Lib.hid ?_
          go_wp2
          go_roundw
          case rel => exact ⟨k + 1, by omega, by go_num, E1.out, HB.out⟩
          case measure => simp [intOf]; omega
        all_goals
          have hp : wholeB sk = false := by unfold wholeB; rw [he]; simp
          have E1 := Lib.hid (HBA.out hp)
          rw [he] at CC
          have KC := Lib.hid CC; clear CC hp HSU HBA he
          go_wp2_with (go_at_call 55; refine KC.out.mono ?_; rintro e w3 ⟨rfl, h⟩; subst h; refine Hid.out ?_)
          refine Lib.hid ?_
          go_wp2
          go_ret
          exact ⟨ret_bool E1.out.symm, HB.out⟩
      · have hp : wholeB sk = false := by unfold wholeB; simp [hf]
        have E1 := Lib.hid (HBA.out hp)
        clear hp HSU HBA
        go_wp2
        go_ret
        exact ⟨ret_bool E1.out.symm, HB.out⟩
    · have hkn : k = n := by omega
      subst hkn
      have e1 : ss.all wholeB = true := by
        have := HALL.out
        rwa [List.take_of_length_le (by rw [HLEN.out]; exact Nat.le_refl _)] at this
      have E1 := Lib.hid e1; clear e1
      go_wp2
      go_ret
      exact ⟨ret_bool E1.out.symm, HB.out⟩

/-- Numbers that stand in a program's text. -/
theorem rstr_lit {s : ByteArray} {q : Rat} (h : bytes s = ratL q) (h1 : (Lib.decDigits q.num.natAbs).length ≤ 4096) (h2 : (Lib.decDigits q.den).length ≤ 4096) : RStr s q :=
  ⟨h, str_itoa h1, str_itoa (by rwa [Int.natAbs_natCast])⟩
theorem ratR2_at {s t : ByteArray} {p q : Rat} (f : Rat → Rat → Value) (hs : RStr s p) (ht : RStr t q) : ratR2 f (bytes s) (bytes t) = f p q := by
  unfold ratR2 rerrBoth
  rw [hs.rerr, if_pos rfl, ht.rerr, if_pos rfl, hs.val, ht.val]
theorem opQ_lit {ok : Bool} {r q : Rat} {u : ByteArray} (h : ok = true) (e : r = q) (hu : RStr u q) : opQ ok r = .tuple #[.string u, .int .i64 0] := by
  unfold opQ; rw [if_pos h, e, hu.lit]
def q12 : Rat := ⟨1, 2, by decide, by decide⟩
theorem q12_str : RStr ⟨#[49, 47, 50]⟩ q12 := rstr_lit (by decide +kernel) (by decide +kernel) (by decide +kernel)
def q13 : Rat := ⟨1, 3, by decide, by decide⟩
theorem q13_str : RStr ⟨#[49, 47, 51]⟩ q13 := rstr_lit (by decide +kernel) (by decide +kernel) (by decide +kernel)
def q56 : Rat := ⟨5, 6, by decide, by decide⟩
theorem q56_str : RStr ⟨#[53, 47, 54]⟩ q56 := rstr_lit (by decide +kernel) (by decide +kernel) (by decide +kernel)
def q1 : Rat := ⟨1, 1, by decide, by decide⟩
def q0 : Rat := ⟨0, 1, by decide, by decide⟩
theorem sM3 : Str ⟨#[45, 51]⟩ (-3) := str_lit (by decide) (by decide) (by decide)
theorem s4 : Str ⟨#[52]⟩ 4 := str_lit (by decide) (by decide) (by decide)
theorem s3 : Str ⟨#[51]⟩ 3 := str_lit (by decide) (by decide) (by decide)
theorem sM6 : Str ⟨#[45, 54]⟩ (-6) := str_lit (by decide) (by decide) (by decide)
theorem sM21 : Str ⟨#[45, 50, 49]⟩ (-21) := str_lit (by decide) (by decide) (by decide)
set_option maxHeartbeats 4000000 in
theorem playNumbers_any (w : World) (htab : Lib.TabIs Tryz.prog w "internal/strconv.uint64pow10" .u64 Lib.pow10Tab) :
    Calls Tryz.prog 59 #[] w (Bret (.bool true) w) := by
  have hT := Lib.tabBelow_of_tabIs htab
  have C1 : ∀ W : World, Below w.heap.size w W → Calls Tryz.prog 57 #[.string ⟨#[55]⟩, .string ⟨#[45, 51]⟩] W (Bret (.tuple #[.string ⟨#[45, 50, 49]⟩, .int .i64 0]) W) := fun W hW => by
    have := mulZ _ _ _ _ W s7 sM3 (hT.on hW).here
    rwa [resV_lit' (s := ⟨#[45, 50, 49]⟩) (r := 7 * (-3)) sM21 (by decide)] at this
  have C2 : ∀ W : World, Below w.heap.size w W → Calls Tryz.prog 65 #[.string ⟨#[45, 50, 49]⟩, .string ⟨#[52]⟩] W (Bret (.tuple #[.string ⟨#[45, 54]⟩, .int .i64 0]) W) := fun W hW => by
    have := quoZ _ _ _ _ W sM21 s4 (by decide) (hT.on hW).here
    rwa [resV_lit' (s := ⟨#[45, 54]⟩) (r := (-21 : Int).fdiv 4) sM6 (by decide)] at this
  have C3 : ∀ W : World, Below w.heap.size w W → Calls Tryz.prog 66 #[.string ⟨#[45, 50, 49]⟩, .string ⟨#[52]⟩] W (Bret (.tuple #[.string ⟨#[51]⟩, .int .i64 0]) W) := fun W hW => by
    have := remZ _ _ _ _ W sM21 s4 (by decide) (hT.on hW).here
    rwa [resV_lit' (s := ⟨#[51]⟩) (r := (-21 : Int).fmod 4) s3 (by decide)] at this
  have C4 : ∀ W : World, Below w.heap.size w W → Calls Tryz.prog 43 #[.string ⟨#[49, 47, 50]⟩, .string ⟨#[49, 47, 51]⟩] W (Bret (.tuple #[.string ⟨#[53, 47, 54]⟩, .int .i64 0]) W) := fun W hW => by
    have := ratAdd ⟨#[49, 47, 50]⟩ ⟨#[49, 47, 51]⟩ W (by decide) (by decide) (hT.on hW).here
    rwa [ratR2_at addQ q12_str q13_str, show addQ q12 q13 = _ from opQ_lit (by decide +kernel) (by decide +kernel) q56_str] at this
  have K1 := Lib.hid C1; have K2 := Lib.hid C2; have K3 := Lib.hid C3; have K4 := Lib.hid C4
  clear C1 C2 C3 C4 htab hT
  go_enter Tryz.func59, Tryz.ntmps59
  go_wp2_with (go_at_call 57; refine (K1.out _ (Below.refl _ _)).mono ?_; rintro e w1 ⟨rfl, hb1⟩; refine Hid.out ?_)
  refine Lib.hid ?_
  go_wp2_with (go_at_call 65; refine (K2.out _ hb1).mono ?_; rintro e w2 ⟨rfl, hb2⟩; refine Hid.out ?_)
  have hB2 := Below.chain hb1 hb2; clear hb2 hb1
  refine Lib.hid ?_
  go_wp2_with (go_at_call 66; refine (K3.out _ hB2).mono ?_; rintro e w3 ⟨rfl, hb3⟩; refine Hid.out ?_)
  have hB3 := Below.chain hB2 hb3; clear hb3 hB2
  refine Lib.hid ?_
  go_wp2_with (go_at_call 43; refine (K4.out _ hB3).mono ?_; rintro e w4 ⟨rfl, hb4⟩; refine Hid.out ?_)
  have hB4 := Below.chain hB3 hb4; clear hb4 hB3
  refine Lib.hid ?_
  go_wp2
  refine bodyPost_ret (v := .bool true) (by simp [results, Tryz.results59, go_sem]) rfl ?_
  exact ⟨rfl, hB4⟩
end Go.Proofs.YtbadibbdoljjhaaGreatDoor

/-
  BigintRing: the walk.
-/
namespace Go.Proofs.YtbadibbdoljjhaaGreatDoor
open Go Go.Proofs Go.RowKit

def Sz (k : Nat) (x : Int) : Prop := x.natAbs < 10 ^ k
theorem Sz.mono {j k : Nat} {x : Int} (h : Sz j x) (hjk : j ≤ k) : Sz k x := Nat.lt_of_lt_of_le h (Nat.pow_le_pow_right (by decide) hjk)
theorem Sz.add {k : Nat} {x y : Int} (h1 : Sz k x) (h2 : Sz k y) : Sz (k + 1) (x + y) := by
  unfold Sz at *
  rw [Nat.pow_succ]
  generalize (10 : Nat) ^ k = p at *
  omega
theorem Sz.neg {k : Nat} {x : Int} (h : Sz k x) : Sz k (-x) := by unfold Sz at *; rwa [Int.natAbs_neg]
theorem Sz.mul {j k : Nat} {x y : Int} (h1 : Sz j x) (h2 : Sz k y) : Sz (j + k) (x * y) := by
  unfold Sz at *
  rw [Int.natAbs_mul, Nat.pow_add]
  exact Nat.mul_lt_mul'' h1 h2
theorem Sz.fits {k : Nat} {x : Int} (h : Sz k x) (h0 : 0 < k) (hk : k ≤ 4096) : ¬ 4096 < (Lib.decDigits x.natAbs).length := fits_of_lt k h h0 hk
theorem Sz.str {k : Nat} {x : Int} (h : Sz k x) (h0 : 0 < k) (hk : k ≤ 4096) : Str (str (Lib.itoa x)) x := str_itoa (Nat.le_of_not_lt (h.fits h0 hk))

end Go.Proofs.YtbadibbdoljjhaaGreatDoor

/-
  rational: sizes; its functions at numbers that are short enough.
-/
namespace Go.Proofs.YtbadibbdoljjhaaGreatDoor
open Go Go.Proofs Go.RowKit

/-- The numerator and the denominator have at most k digits. -/
structure RZ (k : Nat) (q : Rat) : Prop where
  num : Sz k q.num
  den : Sz k (q.den : Int)
theorem RZ.mono {j k : Nat} {q : Rat} (h : RZ j q) (hk : j ≤ k) : RZ k q := ⟨h.num.mono hk, h.den.mono hk⟩
theorem RZ.pos {k : Nat} {q : Rat} (h : RZ k q) : 0 < k := by
  have h1 := h.den; have h2 := q.den_pos
  unfold Sz at h1
  rcases Nat.eq_zero_or_pos k with rfl | hk
  · simp at h1; omega
  · exact hk
theorem RZ.rs {k : Nat} {q : Rat} (h : RZ k q) (hk : k ≤ 4096) : RatS q := ⟨h.num.str h.pos hk, h.den.str h.pos hk⟩
theorem RZ.divInt {k : Nat} {x y : Int} (hx : Sz k x) (hy : Sz k y) (h0 : y ≠ 0) : RZ k (Rat.divInt x y) := by
  obtain ⟨e1, e2⟩ := reduced_parts (x := x) h0
  have hg := sgcd_ne (x := x) h0
  refine ⟨?_, ?_⟩
  · rw [← e1]; exact Nat.lt_of_le_of_lt (fdiv_le x _ hg) hx
  · rw [← e2]; exact Nat.lt_of_le_of_lt (fdiv_le y _ hg) hy
theorem RZ.cross {i j : Nat} {p q : Rat} (hp : RZ i p) (hq : RZ j q) : Sz (i + j) (p.num * q.den) ∧ Sz (i + j) (q.num * p.den) ∧ Sz (i + j) ((p.den : Int) * q.den) ∧ Sz (i + j) (p.num * q.num) ∧ Sz (i + j) ((p.den : Int) * q.num) :=
  ⟨hp.num.mul hq.den, by rw [Nat.add_comm]; exact hq.num.mul hp.den, hp.den.mul hq.den, hp.num.mul hq.num, hp.den.mul hq.num⟩
theorem RZ.add {i j : Nat} {p q : Rat} (hp : RZ i p) (hq : RZ j q) : RZ (i + j + 1) (p + q) := by
  obtain ⟨h1, h2, h3, -, -⟩ := hp.cross hq
  rw [← divInt_add]
  exact RZ.divInt (h1.add h2) (h3.mono (by omega)) (den_mul_ne p q)
theorem RZ.mul {i j : Nat} {p q : Rat} (hp : RZ i p) (hq : RZ j q) : RZ (i + j) (p * q) := by
  obtain ⟨-, -, h3, h4, -⟩ := hp.cross hq
  rw [← divInt_mul]
  exact RZ.divInt h4 h3 (den_mul_ne p q)
theorem RZ.neg {i : Nat} {p : Rat} (hp : RZ i p) : RZ i (-p) := ⟨by rw [Rat.neg_num]; exact hp.num.neg, by rw [Rat.neg_den]; exact hp.den⟩
theorem ratL_len (q : Rat) : (ratL q).length ≤ (Lib.itoa q.num).length + (Lib.itoa (q.den : Int)).length + 1 := by
  unfold ratL; split
  · omega
  · rw [List.length_append, List.length_cons]; omega
theorem RStr.size {s : ByteArray} {q : Rat} (h : RStr s q) : s.size ≤ 9000 := by
  have h1 : (bytes s).length = s.size := rfl
  have h2 := ratL_len q
  have h3 := h.rs.num.size; have h4 := h.rs.den.size
  rw [str_size] at h3 h4
  rw [h.text] at h1
  omega
theorem RStr.short {s : ByteArray} {q : Rat} {k : Nat} (h : RStr s q) (hs : s.size ≤ k) (h0 : 0 < k) : RZ k q := by
  have h1 : (bytes s).length = s.size := rfl
  rw [h.text] at h1
  have ha : (Lib.itoa q.num).length ≤ k ∧ (Lib.itoa (q.den : Int)).length ≤ k := by
    unfold ratL at h1
    split at h1
    · next hd => rw [hd]; refine ⟨by omega, ?_⟩; rw [show Lib.itoa ((1 : Nat) : Int) = [49] from itoa_one]; simp; omega
    · rw [List.length_append, List.length_cons] at h1; omega
  have hb : ∀ z : Int, (Lib.itoa z).length ≤ k → Sz k z := fun z hz => by
    have : (Lib.decDigits z.natAbs).length ≤ (Lib.itoa z).length := by
      by_cases hn : z < 0
      · rw [itoa_neg hn]; simp
      · rw [itoa_nonneg hn]; exact Nat.le_refl _
    exact dec_pow (by omega)
  exact ⟨hb _ ha.1, hb _ ha.2⟩

end Go.Proofs.YtbadibbdoljjhaaGreatDoor

/-
  The words of the statements across the layers: playInts, playRats.
-/
namespace Go.Proofs.YtbadibbdoljjhaaGreatDoor
open Go Go.Proofs Go.RowKit

theorem modify_self {α : Type} (xs : Array α) (i : Nat) (f : α → α) (h : ∀ x, xs[i]? = some x → f x = x) : xs.modify i f = xs := by
  apply Array.ext
  · simp
  · intro j h1 h2
    rw [Array.getElem_modify]
    split
    · next e => subst e; exact h _ (Array.getElem?_eq_some_iff.2 ⟨h2, rfl⟩)
    · rfl
theorem setIf_self {α : Type} (c : Array α) (i : Nat) (v : α) (h : c[i]? = some v) : c.setIfInBounds i v = c := by
  apply Array.ext
  · simp
  · intro j h1 h2
    rw [Array.getElem_setIfInBounds]
    split
    · next e => subst e; exact (Array.getElem?_eq_some_iff.1 h).2.symm
    · rfl
theorem setCell_self (w : World) (a : Addr) (v : Value) (h : w.cell? a = some v) : w.setCell a v = w := by
  have k : ∀ H, H = w.heap → ({ w with heap := H } : World) = w := by rintro _ rfl; rfl
  unfold World.setCell
  refine k _ (modify_self _ _ _ (fun x hx => ?_))
  unfold World.cell? at h
  rw [hx] at h
  cases x with
  | cells c elem fr =>
    dsimp only at h ⊢
    split at h
    · cases h
    · next hs => rw [if_neg hs, setIf_self c a.off v h]
  | _ => rfl

/-- The box of an accountant for whom all went well. -/
structure PlayAt (W : World) (b : Nat) : Prop where
  cell : W.cell? ⟨b, 0, none⟩ = some (.bool true)
  fr : W.frozen? ⟨b, 0, none⟩ = false
  lt : b < W.heap.size
theorem PlayAt.mono {W W' : World} {b : Nat} (h : PlayAt W b) (g : Below W.heap.size W W') : PlayAt W' b :=
  ⟨(g.cell (p := ⟨b, 0, none⟩) h.lt).trans h.cell, (g.frozen (p := ⟨b, 0, none⟩) h.lt).trans h.fr, Nat.lt_of_lt_of_le h.lt g.size⟩
theorem play_new (W : World) (T : TypeId) : PlayAt (W.alloc (Obj.cells #[.bool true] T)) W.heap.size := ⟨by go_cell, by go_cell, by simp⟩

set_option maxHeartbeats 1000000 in
theorem playI_of (s : ByteArray) (b : Nat) (w : World) (h : PlayAt w b) :
    Calls Tryz.prog 63 #[(.pointer (some ⟨b, 0, none⟩)), .string s, .int .i64 0] w fun e w' => e = .returned (.string s) ∧ w' = w := by
  have c0 := h.cell; have f0 := h.fr; have l0 := h.lt
  have hs := setCell_self w ⟨b, 0, none⟩ (.bool true) c0
  have HS := Lib.hid hs; clear hs h
  go_enter Tryz.func63, Tryz.ntmps63
  go_wp2
  refine bodyPost_ret (v := .string s) (by simp [results, Tryz.results63, go_sem]) rfl ?_
  exact ⟨rfl, HS.out⟩

set_option maxHeartbeats 1000000 in
theorem playI_add (s t r : ByteArray) (b : Nat) (w : World) (h : PlayAt w b)
    (C1 : ∀ W : World, Below w.heap.size w W → Calls Tryz.prog 78 #[.string s, .string t] W (Bret (.tuple #[.string r, .int .i64 0]) W)) :
    Calls Tryz.prog 60 #[(.pointer (some ⟨b, 0, none⟩)), .string s, .string t] w (Bret (.string r) w) := by
  have C2 : ∀ W : World, Below w.heap.size w W → Calls Tryz.prog 63 #[(.pointer (some ⟨b, 0, none⟩)), .string r, .int .i64 0] W fun e w' => e = .returned (.string r) ∧ w' = W := fun W hW => playI_of r b W (h.mono hW)
  have K1 := Lib.hid C1; have K2 := Lib.hid C2; clear C1 C2 h
  go_enter Tryz.func60, Tryz.ntmps60
  go_wp2_with (go_at_call 78; refine (K1.out _ (Below.refl _ _)).mono ?_; rintro e w1 ⟨rfl, hb1⟩; refine Hid.out ?_)
  have HB := Lib.hid hb1; clear hb1
  refine Lib.hid ?_
  go_wp2_with (go_at_call 63; refine (K2.out _ HB.out).mono ?_; rintro e w2 ⟨rfl, h⟩; subst h; refine Hid.out ?_)
  refine Lib.hid ?_
  go_wp2
  refine bodyPost_ret (v := .string r) (by simp [results, Tryz.results60, go_sem]) rfl ?_
  exact ⟨rfl, HB.out⟩

set_option maxHeartbeats 1000000 in
theorem playI_mul (s t r : ByteArray) (b : Nat) (w : World) (h : PlayAt w b)
    (C1 : ∀ W : World, Below w.heap.size w W → Calls Tryz.prog 57 #[.string s, .string t] W (Bret (.tuple #[.string r, .int .i64 0]) W)) :
    Calls Tryz.prog 62 #[(.pointer (some ⟨b, 0, none⟩)), .string s, .string t] w (Bret (.string r) w) := by
  have C2 : ∀ W : World, Below w.heap.size w W → Calls Tryz.prog 63 #[(.pointer (some ⟨b, 0, none⟩)), .string r, .int .i64 0] W fun e w' => e = .returned (.string r) ∧ w' = W := fun W hW => playI_of r b W (h.mono hW)
  have K1 := Lib.hid C1; have K2 := Lib.hid C2; clear C1 C2 h
  go_enter Tryz.func62, Tryz.ntmps62
  go_wp2_with (go_at_call 57; refine (K1.out _ (Below.refl _ _)).mono ?_; rintro e w1 ⟨rfl, hb1⟩; refine Hid.out ?_)
  have HB := Lib.hid hb1; clear hb1
  refine Lib.hid ?_
  go_wp2_with (go_at_call 63; refine (K2.out _ HB.out).mono ?_; rintro e w2 ⟨rfl, h⟩; subst h; refine Hid.out ?_)
  refine Lib.hid ?_
  go_wp2
  refine bodyPost_ret (v := .string r) (by simp [results, Tryz.results62, go_sem]) rfl ?_
  exact ⟨rfl, HB.out⟩

theorem whole_two (s t : ByteArray) (w : World) (hs : s.size ≤ 9223372036854775807) (ht : t.size ≤ 9223372036854775807) :
    Calls Tryz.prog 58 #[.slice (some ⟨w.heap.size, 0, none⟩) 2 2] (w.alloc (Obj.cells #[.string s, .string t] 22)) (Bret (.bool (wholeB s && wholeB t)) (w.alloc (Obj.cells #[.string s, .string t] 22))) := by
  have := playWhole_any [s, t] w.heap.size 2 (w.alloc (Obj.cells #[.string s, .string t] 22)) (fun j h => by
    match j, h with
    | 0, _ => show _ = some (Value.string s); go_cell
    | 1, _ => show _ = some (Value.string t); go_cell) (by simp) (fun x hx => by simp at hx; rcases hx with rfl | rfl <;> assumption) (by simp)
  rwa [all_two] at this
theorem str_sz {s : ByteArray} {z : Int} {k : Nat} (h : Str s z) (hk : s.size ≤ k) : Sz k z := by
  have h2 := txt_len h.text
  exact dec_pow (by split at h2 <;> omega)
theorem whole_str {s : ByteArray} (h : wholeB s = true) : Str s (valZ (bytes s)) ∧ Sz 400 (valZ (bytes s)) := by
  unfold wholeB at h
  rw [Bool.and_eq_true, decide_eq_true_eq, decide_eq_true_eq] at h
  exact ⟨str_of_err h.2, str_sz (str_of_err h.2) h.1⟩
end Go.Proofs.YtbadibbdoljjhaaGreatDoor

/-
  TopIntegersRing: the walk.
-/
namespace Go.Proofs.YtbadibbdoljjhaaGreatDoor
open Go Go.Proofs Go.RowKit

theorem pIadd {s t : ByteArray} {x y : Int} {i j : Nat} (hs : Str s x) (ht : Str t y) (hx : Sz i x) (hy : Sz j y) (w : World) (htab : Lib.TabIs Tryz.prog w "internal/strconv.uint64pow10" .u64 Lib.pow10Tab) (hk : i + j + 1 ≤ 4096) (h0 : 0 < i + j + 1) (b : Nat) (W : World) (hP : PlayAt W b) (hW : Below w.heap.size w W) :
    Calls Tryz.prog 60 #[(.pointer (some ⟨b, 0, none⟩)), .string s, .string t] W (Bret (.string (str (Lib.itoa (x + y)))) W) := by
  have hT := Lib.tabBelow_of_tabIs htab
  refine playI_add s t _ b W hP (fun W' hW' => ?_)
  have := addZ s t x y W' hs ht (hT.on (Below.chain hW hW')).here
  rwa [resV_fits (Sz.fits ((hx.mono (by omega : i ≤ i + j)).add (hy.mono (by omega))) h0 hk)] at this
theorem pImul {s t : ByteArray} {x y : Int} {i j : Nat} (hs : Str s x) (ht : Str t y) (hx : Sz i x) (hy : Sz j y) (w : World) (htab : Lib.TabIs Tryz.prog w "internal/strconv.uint64pow10" .u64 Lib.pow10Tab) (hk : i + j ≤ 4096) (h0 : 0 < i + j) (b : Nat) (W : World) (hP : PlayAt W b) (hW : Below w.heap.size w W) :
    Calls Tryz.prog 62 #[(.pointer (some ⟨b, 0, none⟩)), .string s, .string t] W (Bret (.string (str (Lib.itoa (x * y)))) W) := by
  have hT := Lib.tabBelow_of_tabIs htab
  refine playI_mul s t _ b W hP (fun W' hW' => ?_)
  have := mulZ s t x y W' hs ht (hT.on (Below.chain hW hW')).here
  rwa [resV_fits (Sz.fits (hx.mul hy) h0 hk)] at this
theorem Sz.plus {i j : Nat} {x y : Int} (hx : Sz i x) (hy : Sz j y) : Sz (i + j + 1) (x + y) := (hx.mono (by omega : i ≤ i + j)).add (hy.mono (by omega))
theorem Sz.minus {i j : Nat} {x y : Int} (hx : Sz i x) (hy : Sz j y) : Sz (i + j + 1) (x - y) := by rw [Int.sub_eq_add_neg]; exact hx.plus hy.neg
end Go.Proofs.YtbadibbdoljjhaaGreatDoor

