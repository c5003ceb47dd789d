import Derived.Test.YtjobmkdaaionlaaGreatDoorOwnRatN
import Derived.Test.YtjobmkdaaionlaaGreatDoorCut29
import Derived.Deep.AppendLies
import Derived.Test.YtjobmkdaaionlaaGreatDoorCut34
import Derived.Test.YtjobmkdaaionlaaGreatDoorCut32

set_option linter.unusedVariables false
/-
  The reference of rational: Compare, Add, Sub, Mul, Div, Neg, Floor, Ceil, Num, Den.
-/
namespace Go.Proofs.YtjobmkdaaionlaaGreatDoor
open Go Go.Proofs Go.RowKit

theorem sumT {m n : Nat} {s t : ByteArray} {x y : Int} (w : World) (hs : Txt m s x) (ht : Txt n t y) (hm : m ≤ 800000) (hn : n ≤ 800000) : Calls Tryz.prog 105 #[.string s, .string t] w (Bret (.string (str (Lib.itoa (x + y)))) w) :=
  refSumI s t x y w hs.text ht.text (by have := hs.size; omega) (by have := ht.size; omega)
theorem txt_add {m n : Nat} {a b : ByteArray} {x y : Int} (ha : Txt m a x) (hb : Txt n b y) : Txt (m + n + 1) (str (Lib.itoa (x + y))) (x + y) := by
  have := txt_sub ha (txt_neg' hb)
  rwa [Int.sub_neg] at this

end Go.Proofs.YtjobmkdaaionlaaGreatDoor

/-
  linear: the reference's Plus and Times of numbers of any length.
-/
set_option linter.unusedSimpArgs false
namespace Go.Proofs.YtjobmkdaaionlaaGreatDoor
open Go Go.Proofs Go.RowKit

theorem Good.sz2 {k : Nat} {s : ByteArray} (h : Good k s) (h0 : 0 < k) (hk : k ≤ 20000) : s.size ≤ 800000 := by
  have e : s = str (ratL (rv s)) := h.lit.symm
  have h1 := (Txt.ofLt h0 h.rz.num).size
  have h2 := (Txt.ofLt h0 h.rz.den).size
  rw [e]
  by_cases hd : (rv s).den = 1
  · rw [ratL_one hd]; omega
  · rw [ratL_more hd, ByteArray.size_append, ByteArray.size_append]
    have : (⟨#[47]⟩ : ByteArray).size = 1 := rfl
    omega
theorem Good.top {k : Nat} {s : ByteArray} (h : Good k s) (h0 : 0 < k) (hk : k ≤ 20000) (w : World) : Calls Tryz.prog 93 #[.string s] w fun e w' => e = .returned (.string (str (Lib.itoa (rv s).num))) ∧ w' = w := by
  have := refTop s w (h.sz2 h0 hk)
  rwa [h.text, topL_rat] at this
theorem Good.bot {k : Nat} {s : ByteArray} (h : Good k s) (h0 : 0 < k) (hk : k ≤ 20000) (w : World) : Calls Tryz.prog 41 #[.string s] w fun e w' => e = .returned (.string (str (Lib.itoa ((rv s).den : Int)))) ∧ w' = w := by
  have := refBottom s w (h.sz2 h0 hk)
  rwa [h.text, botL_rat] at this
theorem Good.slash {k : Nat} {s : ByteArray} (h : Good k s) (h0 : 0 < k) (hk : k ≤ 20000) : ∃ v : Int, (decide (v < 0) = decide ((rv s).den = 1)) ∧ ∀ w, Calls Tryz.prog 76 #[.string s] w fun e w' => e = .returned (.int .i64 v) ∧ w' = w := by
  refine ⟨slashAt (bytes s), ?_, fun w => slash_any s w (h.sz2 h0 hk)⟩
  have e := hasB_rat (rv s)
  rw [← h.text] at e
  unfold hasB at e
  by_cases hd : (rv s).den = 1
  · rw [decide_eq_true hd] at e ⊢; simp at e ⊢; omega
  · rw [decide_eq_false hd] at e ⊢; simp at e ⊢; omega
theorem Good.num {k : Nat} {s : ByteArray} (h : Good k s) (h0 : 0 < k) : Txt k (str (Lib.itoa (rv s).num)) (rv s).num := Txt.ofLt h0 h.rz.num
theorem Good.den {k : Nat} {s : ByteArray} (h : Good k s) (h0 : 0 < k) : Txt k (str (Lib.itoa ((rv s).den : Int))) ((rv s).den : Int) := Txt.ofLt h0 h.rz.den
theorem Good.whole {k : Nat} {s : ByteArray} (h : Good k s) (hd : (rv s).den = 1) : str (Lib.itoa (rv s).num) = s := by
  have e : str (ratL (rv s)) = s := h.lit
  rwa [ratL_one hd] at e
theorem rat_int {q : Rat} (h : q.den = 1) : q = (q.num : Rat) := by
  apply Rat.ext <;> simp [h]
theorem add_int {p q : Rat} (hp : p.den = 1) (hq : q.den = 1) : str (Lib.itoa (p.num + q.num)) = str (ratL (p + q)) := by
  rw [← ratL_int]
  congr 2
  rw [rat_int hp, rat_int hq]
  push_cast
  simp
theorem mul_int {p q : Rat} (hp : p.den = 1) (hq : q.den = 1) : str (Lib.itoa (p.num * q.num)) = str (ratL (p * q)) := by
  rw [← ratL_int]
  congr 2
  rw [rat_int hp, rat_int hq]
  push_cast
  simp

set_option maxHeartbeats 2000000 in
theorem plusG {s t : ByteArray} {i j : Nat} (hs : Good i s) (ht : Good j t) (hi : 0 < i) (hj : 0 < j) (hik : i ≤ 20000) (hjk : j ≤ 20000) (w : World) :
    Calls Tryz.prog 84 #[.string s, .string t] w (Bret (.string (addT s t)) w) := by
  have A1 := hs.top hi hik; have A2 := hs.bot hi hik; have B1 := ht.top hj hjk; have B2 := ht.bot hj hjk
  obtain ⟨v1, hv1, S1⟩ := hs.slash hi hik
  obtain ⟨v2, hv2, S2⟩ := ht.slash hj hjk
  have tn := hs.num hi; have td := hs.den hi; have un := ht.num hj; have ud := ht.den hj
  have P0 := fun W => prodT W tn ud (by omega) (by omega)
  have P1 := fun W => prodT W un td (by omega) (by omega)
  have P2 := fun W => prodT W td ud (by omega) (by omega)
  have x0 := txt_prod tn ud; have x1 := txt_prod un td; have x2 := txt_prod td ud
  have SU := fun W => sumT W x0 x1 (by omega) (by omega)
  have x3 := txt_add x0 x1
  have FR := fun W => fracT W x3 x2 (by omega) (by omega) (den_mul_ne (rv s) (rv t))
  rw [divInt_add (rv s) (rv t)] at FR
  have SI := fun W => sumT W tn un (by omega) (by omega)
  have hw1 := hs.whole; have hw2 := ht.whole
  have hai := @add_int (rv s) (rv t)
  unfold addT tq
  clear tn td un ud x0 x1 x2 x3 hs ht
  generalize str (ratL (rv s + rv t)) = r at *
  have KA1 := Lib.hid A1; have KA2 := Lib.hid A2; have KB1 := Lib.hid B1; have KB2 := Lib.hid B2; have KS1 := Lib.hid S1; have KS2 := Lib.hid S2; have KP0 := Lib.hid P0; have KP1 := Lib.hid P1; have KP2 := Lib.hid P2; have KU := Lib.hid SU; have KF := Lib.hid FR
  clear A1 A2 B1 B2 S1 S2 P0 P1 P2 SU FR
  by_cases d1 : (rv s).den = 1
  · rw [decide_eq_true d1] at hv1
    by_cases d2 : (rv t).den = 1
    · rw [decide_eq_true d2] at hv2
      rw [hai d1 d2, hw1 d1, hw2 d2] at SI
      have KI := Lib.hid SI
      clear SI hw1 hw2 hai d1 d2 KA1 KA2 KB1 KB2 KP0 KP1 KP2 KU KF
      go_enter Tryz.func84, Tryz.ntmps84
      go_wp2_with (go_at_call 76; refine (KS1.out _).mono ?_; rintro e w1 ⟨rfl, h⟩; subst h; refine Hid.out ?_)
      refine Lib.hid ?_
      go_wp2_with (go_at_call 76; refine (KS2.out _).mono ?_; rintro e w2 ⟨rfl, h⟩; subst h; refine Hid.out ?_)
      refine Lib.hid ?_
      go_wp2_with (go_at_call 105; refine (KI.out _).mono ?_; rintro e w3 ⟨rfl, hb3⟩; refine Hid.out ?_)
      have hB3 := hb3
      clear hb3
      refine Lib.hid ?_
      go_wp2
      refine bodyPost_ret (v := .string r) (by simp [results, Tryz.results84, go_sem]) rfl ?_
      exact ⟨rfl, hB3⟩
    · rw [decide_eq_false d2] at hv2
      clear SI hw1 hw2 hai d1 d2
      go_enter Tryz.func84, Tryz.ntmps84
      go_wp2_with (go_at_call 76; refine (KS1.out _).mono ?_; rintro e w1 ⟨rfl, h⟩; subst h; refine Hid.out ?_)
      refine Lib.hid ?_
      go_wp2_with (go_at_call 76; refine (KS2.out _).mono ?_; rintro e w2 ⟨rfl, h⟩; subst h; refine Hid.out ?_)
      refine Lib.hid ?_
      go_wp2_with (go_at_call 93; refine (KA1.out _).mono ?_; rintro e w3 ⟨rfl, h⟩; subst h; refine Hid.out ?_)
      refine Lib.hid ?_
      go_wp2_with (go_at_call 41; refine (KB2.out _).mono ?_; rintro e w4 ⟨rfl, h⟩; subst h; refine Hid.out ?_)
      refine Lib.hid ?_
      go_wp2_with (go_at_call 90; refine (KP0.out _).mono ?_; rintro e w5 ⟨rfl, hb5⟩; refine Hid.out ?_)
      have hB5 := hb5
      clear hb5
      refine Lib.hid ?_
      go_wp2_with (go_at_call 93; refine (KB1.out _).mono ?_; rintro e w6 ⟨rfl, h⟩; subst h; refine Hid.out ?_)
      refine Lib.hid ?_
      go_wp2_with (go_at_call 41; refine (KA2.out _).mono ?_; rintro e w7 ⟨rfl, h⟩; subst h; refine Hid.out ?_)
      refine Lib.hid ?_
      go_wp2_with (go_at_call 90; refine (KP1.out _).mono ?_; rintro e w8 ⟨rfl, hb8⟩; refine Hid.out ?_)
      have hB8 := Below.chain hB5 hb8
      clear hb8 hB5
      refine Lib.hid ?_
      go_wp2_with (go_at_call 105; refine (KU.out _).mono ?_; rintro e w9 ⟨rfl, hb9⟩; refine Hid.out ?_)
      have hB9 := Below.chain hB8 hb9
      clear hb9 hB8
      refine Lib.hid ?_
      go_wp2_with (go_at_call 41; refine (KA2.out _).mono ?_; rintro e w10 ⟨rfl, h⟩; subst h; refine Hid.out ?_)
      refine Lib.hid ?_
      go_wp2_with (go_at_call 41; refine (KB2.out _).mono ?_; rintro e w11 ⟨rfl, h⟩; subst h; refine Hid.out ?_)
      refine Lib.hid ?_
      go_wp2_with (go_at_call 90; refine (KP2.out _).mono ?_; rintro e w12 ⟨rfl, hb12⟩; refine Hid.out ?_)
      have hB12 := Below.chain hB9 hb12
      clear hb12 hB9
      refine Lib.hid ?_
      go_wp2_with (go_at_call 92; refine (KF.out _).mono ?_; rintro e w13 ⟨rfl, hb13⟩; refine Hid.out ?_)
      have hB13 := Below.chain hB12 hb13
      clear hb13 hB12
      refine Lib.hid ?_
      go_wp2
      refine bodyPost_ret (v := .string r) (by simp [results, Tryz.results84, go_sem]) rfl ?_
      exact ⟨rfl, hB13⟩
  · rw [decide_eq_false d1] at hv1
    clear SI hw1 hw2 hai d1 hv2
    go_enter Tryz.func84, Tryz.ntmps84
    go_wp2_with (go_at_call 76; refine (KS1.out _).mono ?_; rintro e w1 ⟨rfl, h⟩; subst h; refine Hid.out ?_)
    refine Lib.hid ?_
    go_wp2_with (go_at_call 93; refine (KA1.out _).mono ?_; rintro e w2 ⟨rfl, h⟩; subst h; refine Hid.out ?_)
    refine Lib.hid ?_
    go_wp2_with (go_at_call 41; refine (KB2.out _).mono ?_; rintro e w3 ⟨rfl, h⟩; subst h; refine Hid.out ?_)
    refine Lib.hid ?_
    go_wp2_with (go_at_call 90; refine (KP0.out _).mono ?_; rintro e w4 ⟨rfl, hb4⟩; refine Hid.out ?_)
    have hB4 := hb4
    clear hb4
    refine Lib.hid ?_
    go_wp2_with (go_at_call 93; refine (KB1.out _).mono ?_; rintro e w5 ⟨rfl, h⟩; subst h; refine Hid.out ?_)
    refine Lib.hid ?_
    go_wp2_with (go_at_call 41; refine (KA2.out _).mono ?_; rintro e w6 ⟨rfl, h⟩; subst h; refine Hid.out ?_)
    refine Lib.hid ?_
    go_wp2_with (go_at_call 90; refine (KP1.out _).mono ?_; rintro e w7 ⟨rfl, hb7⟩; refine Hid.out ?_)
    have hB7 := Below.chain hB4 hb7
    clear hb7 hB4
    refine Lib.hid ?_
    go_wp2_with (go_at_call 105; refine (KU.out _).mono ?_; rintro e w8 ⟨rfl, hb8⟩; refine Hid.out ?_)
    have hB8 := Below.chain hB7 hb8
    clear hb8 hB7
    refine Lib.hid ?_
    go_wp2_with (go_at_call 41; refine (KA2.out _).mono ?_; rintro e w9 ⟨rfl, h⟩; subst h; refine Hid.out ?_)
    refine Lib.hid ?_
    go_wp2_with (go_at_call 41; refine (KB2.out _).mono ?_; rintro e w10 ⟨rfl, h⟩; subst h; refine Hid.out ?_)
    refine Lib.hid ?_
    go_wp2_with (go_at_call 90; refine (KP2.out _).mono ?_; rintro e w11 ⟨rfl, hb11⟩; refine Hid.out ?_)
    have hB11 := Below.chain hB8 hb11
    clear hb11 hB8
    refine Lib.hid ?_
    go_wp2_with (go_at_call 92; refine (KF.out _).mono ?_; rintro e w12 ⟨rfl, hb12⟩; refine Hid.out ?_)
    have hB12 := Below.chain hB11 hb12
    clear hb12 hB11
    refine Lib.hid ?_
    go_wp2
    refine bodyPost_ret (v := .string r) (by simp [results, Tryz.results84, go_sem]) rfl ?_
    exact ⟨rfl, hB12⟩

theorem beq_zero {s : ByteArray} (h : rv s ≠ 0) : (s.toList == [48]) = false :=
  eqLit _ [48] (fun e => h (by rw [show s = ⟨#[48]⟩ by rw [← str_bytes s, e]; rfl]; exact rv0))
theorem mul_zero_l {s t : ByteArray} (h : rv s = 0) : mulT s t = ⟨#[48]⟩ := by unfold mulT; rw [h, Rat.zero_mul, tq0]
theorem mul_zero_r {s t : ByteArray} (h : rv t = 0) : mulT s t = ⟨#[48]⟩ := by unfold mulT; rw [h, Rat.mul_zero, tq0]
set_option maxHeartbeats 2000000 in
theorem timesG {s t : ByteArray} {i j : Nat} (hs : Good i s) (ht : Good j t) (hi : 0 < i) (hj : 0 < j) (hik : i ≤ 20000) (hjk : j ≤ 20000) (w : World) :
    Calls Tryz.prog 97 #[.string s, .string t] w (Bret (.string (mulT s t)) w) := by
  by_cases z1 : rv s = 0
  · have e := hs.lit; rw [z1, tq0] at e
    rw [mul_zero_l z1]
    subst e
    go_enter Tryz.func97, Tryz.ntmps97
    go_wp2
    refine bodyPost_ret (v := .string ⟨#[48]⟩) (by simp [results, Tryz.results97, go_sem]) rfl ?_
    exact ⟨rfl, Below.refl _ _⟩
  have n1 := beq_zero z1
  by_cases z2 : rv t = 0
  · have e := ht.lit; rw [z2, tq0] at e
    rw [mul_zero_r z2]
    subst e
    clear hs ht
    go_enter Tryz.func97, Tryz.ntmps97
    go_wp2
    refine bodyPost_ret (v := .string ⟨#[48]⟩) (by simp [results, Tryz.results97, go_sem]) rfl ?_
    exact ⟨rfl, Below.refl _ _⟩
  have n2 := beq_zero z2
  have A1 := hs.top hi hik; have A2 := hs.bot hi hik; have B1 := ht.top hj hjk; have B2 := ht.bot hj hjk
  obtain ⟨v1, hv1, S1⟩ := hs.slash hi hik
  obtain ⟨v2, hv2, S2⟩ := ht.slash hj hjk
  have tn := hs.num hi; have td := hs.den hi; have un := ht.num hj; have ud := ht.den hj
  have P0 := fun W => prodT W tn un (by omega) (by omega)
  have P1 := fun W => prodT W td ud (by omega) (by omega)
  have x0 := txt_prod tn un; have x1 := txt_prod td ud
  have FR := fun W => fracT W x0 x1 (by omega) (by omega) (den_mul_ne (rv s) (rv t))
  rw [divInt_mul (rv s) (rv t)] at FR
  have PI := fun W => prodT W tn un (by omega) (by omega)
  have hw1 := hs.whole; have hw2 := ht.whole
  have hai := @mul_int (rv s) (rv t)
  unfold mulT tq
  clear tn td un ud x0 x1 hs ht z1 z2
  generalize str (ratL (rv s * rv t)) = r at *
  have KA1 := Lib.hid A1; have KA2 := Lib.hid A2; have KB1 := Lib.hid B1; have KB2 := Lib.hid B2; have KS1 := Lib.hid S1; have KS2 := Lib.hid S2; have KP0 := Lib.hid P0; have KP1 := Lib.hid P1; have KF := Lib.hid FR
  clear A1 A2 B1 B2 S1 S2 P0 P1 FR
  by_cases d1 : (rv s).den = 1
  · rw [decide_eq_true d1] at hv1
    by_cases d2 : (rv t).den = 1
    · rw [decide_eq_true d2] at hv2
      rw [hai d1 d2, hw1 d1, hw2 d2] at PI
      have KI := Lib.hid PI
      clear PI hw1 hw2 hai d1 d2 KA1 KA2 KB1 KB2 KP0 KP1 KF
      go_enter Tryz.func97, Tryz.ntmps97
      go_wp2_with (go_at_call 76; refine (KS1.out _).mono ?_; rintro e w1 ⟨rfl, h⟩; subst h; refine Hid.out ?_)
      refine Lib.hid ?_
      go_wp2_with (go_at_call 76; refine (KS2.out _).mono ?_; rintro e w2 ⟨rfl, h⟩; subst h; refine Hid.out ?_)
      refine Lib.hid ?_
      go_wp2_with (go_at_call 90; refine (KI.out _).mono ?_; rintro e w3 ⟨rfl, hb3⟩; refine Hid.out ?_)
      have hB3 := hb3
      clear hb3
      refine Lib.hid ?_
      go_wp2
      refine bodyPost_ret (v := .string r) (by simp [results, Tryz.results97, go_sem]) rfl ?_
      exact ⟨rfl, hB3⟩
    · rw [decide_eq_false d2] at hv2
      clear PI hw1 hw2 hai d1 d2
      go_enter Tryz.func97, Tryz.ntmps97
      go_wp2_with (go_at_call 76; refine (KS1.out _).mono ?_; rintro e w1 ⟨rfl, h⟩; subst h; refine Hid.out ?_)
      refine Lib.hid ?_
      go_wp2_with (go_at_call 76; refine (KS2.out _).mono ?_; rintro e w2 ⟨rfl, h⟩; subst h; refine Hid.out ?_)
      refine Lib.hid ?_
      go_wp2_with (go_at_call 93; refine (KA1.out _).mono ?_; rintro e w3 ⟨rfl, h⟩; subst h; refine Hid.out ?_)
      refine Lib.hid ?_
      go_wp2_with (go_at_call 93; refine (KB1.out _).mono ?_; rintro e w4 ⟨rfl, h⟩; subst h; refine Hid.out ?_)
      refine Lib.hid ?_
      go_wp2_with (go_at_call 90; refine (KP0.out _).mono ?_; rintro e w5 ⟨rfl, hb5⟩; refine Hid.out ?_)
      have hB5 := hb5
      clear hb5
      refine Lib.hid ?_
      go_wp2_with (go_at_call 41; refine (KA2.out _).mono ?_; rintro e w6 ⟨rfl, h⟩; subst h; refine Hid.out ?_)
      refine Lib.hid ?_
      go_wp2_with (go_at_call 41; refine (KB2.out _).mono ?_; rintro e w7 ⟨rfl, h⟩; subst h; refine Hid.out ?_)
      refine Lib.hid ?_
      go_wp2_with (go_at_call 90; refine (KP1.out _).mono ?_; rintro e w8 ⟨rfl, hb8⟩; refine Hid.out ?_)
      have hB8 := Below.chain hB5 hb8
      clear hb8 hB5
      refine Lib.hid ?_
      go_wp2_with (go_at_call 92; refine (KF.out _).mono ?_; rintro e w9 ⟨rfl, hb9⟩; refine Hid.out ?_)
      have hB9 := Below.chain hB8 hb9
      clear hb9 hB8
      refine Lib.hid ?_
      go_wp2
      refine bodyPost_ret (v := .string r) (by simp [results, Tryz.results97, go_sem]) rfl ?_
      exact ⟨rfl, hB9⟩
  · rw [decide_eq_false d1] at hv1
    clear PI hw1 hw2 hai d1 hv2
    go_enter Tryz.func97, Tryz.ntmps97
    go_wp2_with (go_at_call 76; refine (KS1.out _).mono ?_; rintro e w1 ⟨rfl, h⟩; subst h; refine Hid.out ?_)
    refine Lib.hid ?_
    go_wp2_with (go_at_call 93; refine (KA1.out _).mono ?_; rintro e w2 ⟨rfl, h⟩; subst h; refine Hid.out ?_)
    refine Lib.hid ?_
    go_wp2_with (go_at_call 93; refine (KB1.out _).mono ?_; rintro e w3 ⟨rfl, h⟩; subst h; refine Hid.out ?_)
    refine Lib.hid ?_
    go_wp2_with (go_at_call 90; refine (KP0.out _).mono ?_; rintro e w4 ⟨rfl, hb4⟩; refine Hid.out ?_)
    have hB4 := hb4
    clear hb4
    refine Lib.hid ?_
    go_wp2_with (go_at_call 41; refine (KA2.out _).mono ?_; rintro e w5 ⟨rfl, h⟩; subst h; refine Hid.out ?_)
    refine Lib.hid ?_
    go_wp2_with (go_at_call 41; refine (KB2.out _).mono ?_; rintro e w6 ⟨rfl, h⟩; subst h; refine Hid.out ?_)
    refine Lib.hid ?_
    go_wp2_with (go_at_call 90; refine (KP1.out _).mono ?_; rintro e w7 ⟨rfl, hb7⟩; refine Hid.out ?_)
    have hB7 := Below.chain hB4 hb7
    clear hb7 hB4
    refine Lib.hid ?_
    go_wp2_with (go_at_call 92; refine (KF.out _).mono ?_; rintro e w8 ⟨rfl, hb8⟩; refine Hid.out ?_)
    have hB8 := Below.chain hB7 hb8
    clear hb8 hB7
    refine Lib.hid ?_
    go_wp2
    refine bodyPost_ret (v := .string r) (by simp [results, Tryz.results97, go_sem]) rfl ?_
    exact ⟨rfl, hB8⟩
end Go.Proofs.YtjobmkdaaionlaaGreatDoor

/-
  linear: the reference's Times and Plus of expressions.
-/
set_option linter.unusedSimpArgs false
namespace Go.Proofs.YtjobmkdaaionlaaGreatDoor
open Go Go.Proofs Go.RowKit

/-- An element that is appended to an own row, as a step of a region that draws. -/
theorem step_append_row {ops : Array Oper} {o : Oper} {a : Act} {W : World} {K : Act → World → Prop} {Q : Exit → Act → World → Prop} {E : Prop}
    (hg : o.guard = none) (s x : Operand) (hop : o.op = Op.call { callee := Callee.builtin Builtin.append, args := #[s, x], argTypes := #[25, 25] })
    (base : Nat) (v : Value) (n : Nat) (l : List ByteArray) (hn : l.length = n) (hs : a.eval s = v) (hown : W.ownsRow base 22 1 v n (strCells l)) (hl : n ≤ 1000000) (hbase : base ≤ W.heap.size)
    (ad : Nat) (k : ByteArray) (hx : a.eval x = .slice (some ⟨ad, 0, none⟩) 1 1) (hc : W.cell? ⟨ad, 0, none⟩ = some (.string k))
    (hK : ∀ (g cap : Nat) (w9 : World), w9.ownsRow base 22 1 (.slice (some ⟨g, 0, none⟩) (n + 1) cap) (n + 1) (strCells (l ++ [k])) → Below base W w9 → K (a.put o.dst (.slice (some ⟨g, 0, none⟩) (n + 1) cap)) w9) :
    if Region.wanted o (yielded ops a.tmps) = true then Oper.wp Tryz.prog o a W K Q else E := by
  obtain ⟨i0, hi, hz0, hz1, hz2⟩ := info_parts infoRat
  refine step_append_lies W hg s x 25 hop base 22 i0 (.string ⟨#[]⟩) 1 16 Tryz.underlying25 hi hz0 hz1 hz2 rfl (by decide) v n (strCells l) hs hown ⟨ad, 0, none⟩ 1 1 [.string k] hx rfl ?_ (by intro u hu; simp at hu; subst hu; rfl) (by decide) (by unfold maxLen; omega) (by omega) hbase _ rfl ?_
  · intro j u hu
    match j, hu with
    | 0, hu => simp at hu; subst hu; rw [addr_zero]; exact hc
  · intro g cap w9 hown9 hgrow _ hg9
    rw [show strCells l ++ [Value.string k] = strCells (l ++ [k]) from (strCells_append l [k]).symm] at hown9
    exact hK g cap w9 hown9 ((Below.refl _ _).grown hgrow hbase (fun k hk => (hown.lt k hk).1))
theorem range_snoc (g : Nat → ByteArray) (j : Nat) : (List.range j).map g ++ [g j] = (List.range (j + 1)).map g := by simp [List.range_succ]
theorem range_len (g : Nat → ByteArray) (j : Nat) : ((List.range j).map g).length = j := by simp

set_option maxRecDepth 20000 in
set_option maxHeartbeats 4000000 in
theorem refTimesL (l : List ByteArray) (k x : ByteArray) (ao : Option Addr) (c i m : Nat) (w : World) (hr : SRow w ao c l) (hn : l.length ≤ 1000) (hg : ∀ s ∈ l ++ [k], Good i s) (hx : Good m x) (hi : 0 < i) (hm : 0 < m) (hik : i ≤ 20000) (hmk : m ≤ 20000) :
    Calls Tryz.prog 69 #[.agg #[.slice ao l.length c, .string k], .string x] w (OutRet (w.heap.size + 2) (l.map fun s => mulT s x) (mulT k x) w) := by
  have CK := fun W => timesG (hg k (by simp)) hx hi hm hik hmk W
  have CE : ∀ (j : Nat) (hj : j < l.length) (W : World), Calls Tryz.prog 97 #[.string (l[j]'hj), .string x] W (Bret (.string (mulT (l.getD j ⟨#[]⟩) x)) W) := fun j hj W => by
    rw [getD_get l hj]
    exact timesG (hg _ (List.mem_append_left _ (List.getElem_mem hj))) hx hi hm hik hmk W
  rw [← map_range_getD l (fun s => mulT s x)]
  generalize hf : (fun j => mulT (l.getD j ⟨#[]⟩) x) = f
  have CE' : ∀ (j : Nat) (hj : j < l.length) (W : World), Calls Tryz.prog 97 #[.string (l[j]'hj), .string x] W (Bret (.string (f j)) W) := fun j hj W => by subst hf; exact CE j hj W
  obtain ⟨X0, Z0, B0⟩ := entryAB w (.slice ao l.length c) (.string k) (.slice none 0 0) (.string ⟨#[]⟩) 27
  have hrow : ∀ W, Below w.heap.size w W → ∀ j (hj : j < l.length), ∃ b off, ao = some ⟨b, off, none⟩ ∧ b < W.heap.size ∧ W.cell? ⟨b, off + j, none⟩ = some (.string (l[j]'hj)) := fun W hW => (hr.mono hW).get
  have HROW := Lib.hid hrow; have KK := Lib.hid CK; have KE := Lib.hid CE'
  clear hrow CK CE CE' hr hg hx hf
  generalize mulT k x = y at *
  go_enter Tryz.func69, Tryz.ntmps69
  have x0 := X0.c0; have x1 := X0.c1; have x4 := X0.lt
  go_wp2_with (go_at_call 97; refine (KK.out _).mono ?_; rintro e w1 ⟨rfl, hb1⟩; refine Hid.out ?_)
  have X1 := X0.mono hb1; have Z1 := Z0.mono hb1; have B1 := Below.chain B0 hb1
  have hb5 : w.heap.size + 2 ≤ w1.heap.size := by have := Z1.lt; omega
  clear hb1 x0 x1 x4 X0 Z0 B0
  refine Lib.hid ?_
  go_wp2_with fail
  have N1 := nb (Below.refl w1.heap.size w1) (Obj.cells #[.slice none 0 0, .string y] 27)
  have X2 := X1.mono N1; have Z2 := Z1.mono N1; have B2 := Below.chain B1 N1
  have O2 := OutL.new w1 y 27
  clear X1 Z1 B1 N1
  generalize w1.alloc (Obj.cells #[.slice none 0 0, .string y] 27) = W2 at *
  generalize hb : w1.heap.size = b5 at *
  clear hb
  go_loopw [6] (fun iv wr => ∃ (j : Nat) (a2 : Option Addr) (c2 : Nat), j ≤ l.length ∧ iv = .int .i64 (j : Int) ∧ Bx2 wr w.heap.size (.slice ao l.length c) (.string k) ∧ Bx2 wr (w.heap.size + 1) (.slice none 0 0) (.string ⟨#[]⟩) ∧ OutL wr b5 a2 c2 ((List.range j).map f) y ∧ Below w.heap.size w wr) (fun iv _ => l.length - (intOf iv).toNat)
  case atStart => exact ⟨0, none, 0, Nat.zero_le _, rfl, X2, Z2, O2, B2⟩
  case round =>
    obtain ⟨j, a2, c2, hj, rfl, hx, hz, ho, hB⟩ := hrel
    clear X2 Z2 O2 B2
    by_cases hlt : j < l.length
    · obtain ⟨b, off, rfl, hbw, -⟩ := HROW.out w (Below.refl _ _) j hlt
      obtain ⟨b', off', e', hbl, hcl⟩ := HROW.out wr hB j hlt
      cases e'
      have CA := KE.out j hlt
      have hlen := range_len f j
      generalize l[j]'hlt = sj at *
      have hj0 : (0 : Int) ≤ (j : Int) := by omega
      have hj1 : (j : Int) < (l.length : Int) := by omega
      have x0 := hx.c0; have x4 := hx.lt
      have KCA := Lib.hid CA
      have KST : ∀ W, Below wr.heap.size wr W → ((W.cell? ⟨w.heap.size, 0, none⟩ = some (.slice (some ⟨b, off, none⟩) l.length c) ∧ W.cell? ⟨b, off + j, none⟩ = some (.string sj)) ∧ W.cell? ⟨b5, 0, none⟩ = some (.slice a2 j c2)) := fun W hW => ⟨⟨(hx.mono hW).c0, (hW.cell (p := ⟨b, off + j, none⟩) hbl).trans hcl⟩, by have := (ho.mono hW).bx.c0; rwa [hlen] at this⟩
      have HST := Lib.hid KST
      have KS9 : ∀ W W', Below wr.heap.size wr W → Below (b5 + 1) W W' → ((W'.cell? ⟨w.heap.size, 0, none⟩ = some (.slice (some ⟨b, off, none⟩) l.length c) ∧ W'.cell? ⟨b, off + j, none⟩ = some (.string sj)) ∧ W'.cell? ⟨b5, 0, none⟩ = some (.slice a2 j c2)) := fun W W' hW h9 => by
        obtain ⟨⟨h1, h2⟩, h3⟩ := KST W hW
        exact ⟨⟨(h9.cell (p := ⟨w.heap.size, 0, none⟩) (by dsimp only; omega)).trans h1, (h9.cell (p := ⟨b, off + j, none⟩) (by dsimp only; omega)).trans h2⟩, (h9.cell (p := ⟨b5, 0, none⟩) (by dsimp only; omega)).trans h3⟩
      have HS9 := Lib.hid KS9
      have KOW : ∀ W, Below wr.heap.size wr W → W.ownsRow (b5 + 1) 22 1 (.slice a2 j c2) j (strCells ((List.range j).map f)) := fun W hW => by have := (ho.mono hW).own; rwa [hlen] at this
      have HOW := Lib.hid KOW
      have hbs : b5 + 1 ≤ wr.heap.size := ho.bx.lt
      have HX := Lib.hid hx; have HZ := Lib.hid hz; have HO := Lib.hid ho; have HB := Lib.hid hB
      clear CA KST KS9 KOW hx hz ho hB hcl
      go_wp2_with fail
      have hD : Below wr.heap.size wr wr.drew := (Below.refl _ _).drew
      clear x0 x4
      refine wp_region_hot (fun j => j == 12) (fun w' => ((w'.cell? ⟨w.heap.size, 0, none⟩ = some (.slice (some ⟨b, off, none⟩) l.length c) ∧ w'.cell? ⟨b, off + j, none⟩ = some (.string sj)) ∧ w'.cell? ⟨b5, 0, none⟩ = some (.slice a2 j c2))) (by kernel_rfl) (HST.out _ hD) (fun hHeld => ?_)
      refine hot_take (i := 0) (oi := { dst := some 19, op := Op.fieldAddr 27 (Operand.tmp 5) 0, type := 0, pos := "ref.go:106", after := #[], guard := none }) (v := ?v0) rfl (by kernel_rfl) (by kernel_rfl) (by kernel_rfl) rfl (by kernel_rfl) (by kernel_rfl) (fun _ _ _ h => h) (Or.inl ⟨by rfl, ?h0⟩) (by assumption) ?r0
      case h0 => (intro w hSw; (try dsimp only at hSw); go_simp; try with_reducible rfl)
      (try simp only [Act.put, List.setIfInBounds_toArray, List.set_cons_zero, List.set_cons_succ])
      refine hot_take (i := 1) (oi := { dst := some 20, op := Op.load 25 (Operand.tmp 19), type := 25, pos := "ref.go:106", after := #[{ on := 0, ground := Ground.data }], guard := none }) (v := ?v1) rfl (by kernel_rfl) (by kernel_rfl) (by kernel_rfl) rfl (by kernel_rfl) (by kernel_rfl) (fun _ _ _ h => h) (Or.inl ⟨by rfl, ?h1⟩) (by assumption) ?r1
      case h1 => (intro w hSw; (try dsimp only at hSw); go_simp; try with_reducible rfl)
      (try simp only [Act.put, List.setIfInBounds_toArray, List.set_cons_zero, List.set_cons_succ])
      refine hot_take (i := 2) (oi := { dst := some 21, op := Op.fieldAddr 27 (Operand.tmp 2) 0, type := 0, pos := "ref.go:106", after := #[], guard := none }) (v := ?v2) rfl (by kernel_rfl) (by kernel_rfl) (by kernel_rfl) rfl (by kernel_rfl) (by kernel_rfl) (fun _ _ _ h => h) (Or.inl ⟨by rfl, ?h2⟩) (by assumption) ?r2
      case h2 => (intro w hSw; (try dsimp only at hSw); go_simp; try with_reducible rfl)
      (try simp only [Act.put, List.setIfInBounds_toArray, List.set_cons_zero, List.set_cons_succ])
      refine hot_take (i := 3) (oi := { dst := some 22, op := Op.load 25 (Operand.tmp 21), type := 25, pos := "ref.go:106", after := #[{ on := 2, ground := Ground.data }], guard := none }) (v := ?v3) rfl (by kernel_rfl) (by kernel_rfl) (by kernel_rfl) rfl (by kernel_rfl) (by kernel_rfl) (fun _ _ _ h => h) (Or.inl ⟨by rfl, ?h3⟩) (by assumption) ?r3
      case h3 => (intro w hSw; (try dsimp only at hSw); go_simp; try with_reducible rfl)
      (try simp only [Act.put, List.setIfInBounds_toArray, List.set_cons_zero, List.set_cons_succ])
      refine hot_take (i := 4) (oi := { dst := some 23, op := Op.move (Operand.tmp 6), type := 3, pos := "ref.go:106", after := #[], guard := none }) (v := ?v4) rfl (by kernel_rfl) (by kernel_rfl) (by kernel_rfl) rfl (by kernel_rfl) (by kernel_rfl) (fun _ _ _ h => h) (Or.inl ⟨by rfl, ?h4⟩) (by assumption) ?r4
      case h4 => (intro w hSw; (try dsimp only at hSw); go_simp; try with_reducible rfl)
      (try simp only [Act.put, List.setIfInBounds_toArray, List.set_cons_zero, List.set_cons_succ])
      refine hot_take (i := 5) (oi := { dst := some 24, op := Op.indexAddr 25 (Operand.tmp 22) (Operand.tmp 23), type := 0, pos := "ref.go:106", after := #[{ on := 3, ground := Ground.data }, { on := 4, ground := Ground.data }], guard := none }) (v := ?v5) rfl (by kernel_rfl) (by kernel_rfl) (by kernel_rfl) rfl (by kernel_rfl) (by kernel_rfl) (fun _ _ _ h => h) (Or.inl ⟨by rfl, ?h5⟩) (by assumption) ?r5
      case h5 => (intro w hSw; (try dsimp only at hSw); go_simp; try with_reducible rfl)
      (try simp only [Act.put, List.setIfInBounds_toArray, List.set_cons_zero, List.set_cons_succ])
      refine hot_take (i := 6) (oi := { dst := some 25, op := Op.load 22 (Operand.tmp 24), type := 22, pos := "ref.go:106", after := #[{ on := 5, ground := Ground.data }], guard := none }) (v := ?v6) rfl (by kernel_rfl) (by kernel_rfl) (by kernel_rfl) rfl (by kernel_rfl) (by kernel_rfl) (fun _ _ _ h => h) (Or.inl ⟨by rfl, ?h6⟩) (by assumption) ?r6
      case h6 => (intro w hSw; (try dsimp only at hSw); go_simp; try with_reducible rfl)
      (try simp only [Act.put, List.setIfInBounds_toArray, List.set_cons_zero, List.set_cons_succ])
      refine hot_take (i := 7) (oi := { dst := some 26, op := Op.move (Operand.tmp 1), type := 22, pos := "ref.go:106", after := #[], guard := none }) (v := ?v7) rfl (by kernel_rfl) (by kernel_rfl) (by kernel_rfl) rfl (by kernel_rfl) (by kernel_rfl) (fun _ _ _ h => h) (Or.inl ⟨by rfl, ?h7⟩) (by assumption) ?r7
      case h7 => (intro w hSw; (try dsimp only at hSw); go_simp; try with_reducible rfl)
      (try simp only [Act.put, List.setIfInBounds_toArray, List.set_cons_zero, List.set_cons_succ])
      refine hot_one (i := 8) (oi := { dst := some 27, op := Op.call { callee := Callee.value (Operand.func 97), args := #[Operand.tmp 25, Operand.tmp 26], argTypes := #[22, 22] }, type := 22, pos := "ref.go:106", after := #[{ on := 6, ground := Ground.data }, { on := 7, ground := Ground.data }], guard := none }) rfl (by kernel_rfl) (fun K hK => ?_)
      go_simp
      go_wp2_with (go_at_call 97; refine (KCA.out _).mono ?_; rintro e v1 ⟨rfl, hc1⟩)
      have hB1 : Below wr.heap.size wr v1 := Below.chain hD hc1
      have hHeld := HST.out _ hB1
      refine hK.out _ _ (fun _ => hHeld) ?_
      clear hK K
      (try simp only [Act.put, List.setIfInBounds_toArray, List.set_cons_zero, List.set_cons_succ])
      refine hot_one (i := 9) (oi := { dst := some 28, op := Op.buildSlice 25 1 #[(0, Operand.tmp 27)], type := 25, pos := "ref.go:106", after := #[{ on := 8, ground := Ground.data }], guard := none }) rfl (by kernel_rfl) (fun K hK => ?_)
      go_simp
      have hHeld := HST.out _ (nb hB1 (Obj.cells #[.string (f j)] 22))
      refine hK.out _ _ (fun _ => hHeld) ?_
      clear hK K
      (try simp only [Act.put, List.setIfInBounds_toArray, List.set_cons_zero, List.set_cons_succ])
      refine hot_one (i := 10) (oi := { dst := some 29, op := Op.call { callee := Callee.builtin Builtin.append, args := #[Operand.tmp 20, Operand.tmp 28], argTypes := #[25, 25] }, type := 25, pos := "ref.go:106", after := #[{ on := 1, ground := Ground.data }, { on := 9, ground := Ground.data }, { on := 8, ground := Ground.chain }], guard := none }) rfl (by kernel_rfl) (fun K hK => ?_)
      refine step_append_row rfl (.tmp 20) (.tmp 28) rfl (b5 + 1) _ j ((List.range j).map f) hlen (by simp [Act.eval, Act.put]) (HOW.out _ (nb hB1 _)) (by omega) (Nat.le_trans hbs (nb hB1 _).size) v1.heap.size (f j) (by simp [Act.eval, Act.put]) (allocN v1 _ _) ?_
      intro g cap w9 hown9 hb9
      have hHeld := HS9.out _ _ (nb hB1 (Obj.cells #[.string (f j)] 22)) hb9
      refine hK.out _ _ (fun _ => hHeld) ?_
      clear hK K
      (try simp only [Act.put, List.setIfInBounds_toArray, List.set_cons_zero, List.set_cons_succ])
      have q0 := ((HO.out.mono (nb hB1 _)).bx.low hb9 (Nat.lt_succ_self _)).c0
      have q1 := ((HO.out.mono (nb hB1 _)).bx.low hb9 (Nat.lt_succ_self _)).f0
      have q2 := ((HO.out.mono (nb hB1 _)).bx.low hb9 (Nat.lt_succ_self _)).lt
      refine hot_takeW (i := 11) (oi := { dst := some 30, op := Op.fieldAddr 27 (Operand.tmp 5) 0, type := 0, pos := "ref.go:106", after := #[{ on := 0, ground := Ground.phase }, { on := 1, ground := Ground.phase }, { on := 2, ground := Ground.phase }, { on := 3, ground := Ground.phase }, { on := 4, ground := Ground.phase }, { on := 5, ground := Ground.phase }, { on := 6, ground := Ground.phase }, { on := 7, ground := Ground.phase }, { on := 8, ground := Ground.phase }, { on := 9, ground := Ground.phase }, { on := 10, ground := Ground.phase }], guard := none }) (v := ?v11) rfl (by kernel_rfl) (by kernel_rfl) (by kernel_rfl) rfl (fun _ _ _ h => h) (Or.inl ⟨by rfl, ?h11⟩) (by assumption) ?r11
      case h11 => (intro w _; go_simp; try with_reducible rfl)
      (try simp only [Act.put, List.setIfInBounds_toArray, List.set_cons_zero, List.set_cons_succ])
      refine hot_one (i := 12) (oi := { dst := none, op := Op.store 25 (Operand.tmp 30) (Operand.tmp 29), type := 0, pos := "ref.go:106", after := #[{ on := 11, ground := Ground.data }, { on := 10, ground := Ground.data }, { on := 10, ground := Ground.chain }, { on := 0, ground := Ground.phase }, { on := 1, ground := Ground.phase }, { on := 2, ground := Ground.phase }, { on := 3, ground := Ground.phase }, { on := 4, ground := Ground.phase }, { on := 5, ground := Ground.phase }, { on := 6, ground := Ground.phase }, { on := 7, ground := Ground.phase }, { on := 8, ground := Ground.phase }, { on := 9, ground := Ground.phase }, { on := 10, ground := Ground.phase }], guard := none }) rfl (by kernel_rfl) (fun K hK => ?_)
      go_simp
      refine hK.out _ _ (fun h => by cases h) ?_
      clear hK K q0 q1 q2
      refine hot_done (by kernel_rfl) ?_ _
      have hown9' : w9.ownsRow (b5 + 1) 22 1 (.slice (some ⟨g, 0, none⟩) (((List.range j).map f).length + 1) cap) (((List.range j).map f).length + 1) (strCells (((List.range j).map f) ++ [f j])) := by rw [hlen]; exact hown9
      have N := (HO.out.mono (nb hB1 _)).next hown9' hb9
      rw [hlen, range_snoc] at N
      have X9 := ((HX.out.mono (nb hB1 _)).low hb9 (by omega)).set (g := b5) (by omega) 0 (.slice (some ⟨g, 0, none⟩) (j + 1) cap)
      have Z9 := ((HZ.out.mono (nb hB1 _)).low hb9 (by omega)).set (g := b5) (by omega) 0 (.slice (some ⟨g, 0, none⟩) (j + 1) cap)
      have B9 := (((Below.chain HB.out (nb hB1 _)).trans (hb9.mono (by omega))).setCell (p := ⟨b5, 0, none⟩) (by dsimp only; omega) (.slice (some ⟨g, 0, none⟩) (j + 1) cap))
      have HN := Lib.hid N; have HX9 := Lib.hid X9; have HZ9 := Lib.hid Z9; have HB9 := Lib.hid B9
      clear N X9 Z9 B9 hown9 hown9' hb9
      go_wp2
      go_roundw
      case rel => exact ⟨j + 1, _, cap, by omega, by go_num, HX9.out, HZ9.out, HN.out, HB9.out⟩
      case measure => simp [intOf]; omega
    · have hjn : j = l.length := by omega
      subst hjn
      have hlen := range_len f l.length
      have x0 := ho.bx.c0; have x1 := ho.bx.c1; have x2 := ho.bx.f0; have x3 := ho.bx.f1; have x4 := ho.bx.lt
      have y0 := hx.c0; have y4 := hx.lt
      have z0' := hz.c0; have z1 := hz.c1; have z2 := hz.f0; have z3 := hz.f1; have z4 := hz.lt
      have q := box2 hz.c0 hz.c1 (.slice a2 l.length c2) (.string y)
      have HBB := Lib.hid (below2 (p := w.heap.size + 1) hB (by omega) (.slice a2 l.length c2) (.string y))
      have ho2 := ownsRow_setCell_below (ownsRow_setCell_below ho.own (a := ⟨w.heap.size + 1, 0, none⟩) (by dsimp only; omega) (.slice a2 l.length c2)) (a := ⟨w.heap.size + 1, 1, none⟩) (by dsimp only; omega) (.string y)
      rw [hlen] at ho2 x0
      have HO := Lib.hid ho2
      obtain ⟨q1, q2⟩ := q
      clear ho2 ho hx hz hB
      go_wp2
      refine bodyPost_ret (v := .agg #[.slice a2 l.length c2, .string y]) (by simp [results, Tryz.results69, go_sem, q1, q2]) rfl ?_
      exact ⟨a2, c2, by rw [hlen], by rw [hlen]; exact owns_base HO.out (by omega), HBB.out⟩
end Go.Proofs.YtjobmkdaaionlaaGreatDoor
