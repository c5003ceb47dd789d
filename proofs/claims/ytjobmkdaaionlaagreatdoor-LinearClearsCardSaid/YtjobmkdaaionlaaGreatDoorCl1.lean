import Derived.Test.YtjobmkdaaionlaaGreatDoorCut35
import Derived.Test.YtjobmkdaaionlaaGreatDoorCut34
import Derived.SliceStrings
import Derived.ChangeSlices
import Derived.DataShut
import Derived.OpenShut
import Derived.ChangeMaps5
import Derived.Lib.SmallJoins
import Derived.Test.YtjobmkdaaionlaaGreatDoorCut36
import Derived.Test.YtjobmkdaaionlaaGreatDoorCut30
import Derived.Test.YtjobmkdaaionlaaGreatDoorOwnRatN
import Derived.Deep.CutRange
import Derived.Test.YtjobmkdaaionlaaGreatDoorCut29
import Derived.Test.YtjobmkdaaionlaaGreatDoorCut37
import Derived.Test.YtjobmkdaaionlaaGreatDoorCut32
import Derived.Deep.RegionHeld3

set_option linter.unusedVariables false
/-
  linear: the reference's One, Constant, Variable, FewText.
-/
set_option linter.unusedSimpArgs false
namespace Go.Proofs.YtjobmkdaaionlaaGreatDoor
open Go Go.Proofs Go.RowKit

def fewT (s : ByteArray) : Bool := decide (s.size ≤ 450)
set_option maxHeartbeats 1000000 in
theorem fewText (s : ByteArray) (w : World) : Calls Tryz.prog 12 #[.string s] w fun e w' => e = .returned (.bool (fewT s)) ∧ w' = w := by
  unfold fewT
  by_cases h : s.size ≤ 450
  all_goals
    go_enter Tryz.func12, Tryz.ntmps12
    go_wp2
    refine bodyPost_ret (v := .bool (decide (s.size ≤ 450))) (by simp [results, Tryz.results12, go_sem] <;> omega) rfl ?_
    exact ⟨rfl, rfl⟩
end Go.Proofs.YtjobmkdaaionlaaGreatDoor

/-
  linear: the reference's Few.
-/
set_option linter.unusedSimpArgs false
namespace Go.Proofs.YtjobmkdaaionlaaGreatDoor
open Go Go.Proofs Go.RowKit

def fewL (l : List ByteArray) (k : ByteArray) : Bool := decide (l.length ≤ 40) && (fewT k && l.all fewT)
theorem all_drop (l : List ByteArray) (j : Nat) (h : j < l.length) : (l.drop j).all fewT = (fewT l[j] && (l.drop (j + 1)).all fewT) := by
  rw [List.drop_eq_getElem_cons h, List.all_cons]

set_option maxHeartbeats 2000000 in
theorem refFew (l : List ByteArray) (k : ByteArray) (ao : Option Addr) (c : Nat) (w : World) (hr : SRow w ao c l) (hm : (l.length : Int) ≤ 9223372036854775807) :
    Calls Tryz.prog 19 #[.agg #[.slice ao l.length c, .string k]] w (Bret (.bool (fewL l k)) w) := by
  have CK := fun (W : World) => fewText k W
  have X := Bx2.new w (.slice ao l.length c) (.string k) 27
  have B : Below w.heap.size w (w.alloc (Obj.cells #[.slice ao l.length c, .string k] 27)) := (Below.refl _ _).alloc (Nat.le_refl _) _
  have x0 := X.c0; have x1 := X.c1; have x4 := X.lt
  have hga : ∀ W, Below w.heap.size w W → ∀ j (hj : j < l.length), ∃ b off, ao = some ⟨b, off, none⟩ ∧ b < W.heap.size ∧ W.cell? ⟨b, off + j, none⟩ = some (.string (l[j]'hj)) := fun W hW => (hr.mono hW).get
  have HA := Lib.hid hga; clear hga hr
  have HB := Lib.hid B; have HX := Lib.hid X; clear B X
  unfold fewL
  by_cases h1 : l.length ≤ 40
  · rw [decide_eq_true h1, Bool.true_and]
    cases hk : fewT k
    · rw [hk] at CK
      rw [Bool.false_and]
      have KK := Lib.hid CK; clear CK hk
      have h1' : (l.length : Int) ≤ 40 := by omega
      go_enter Tryz.func19, Tryz.ntmps19
      go_wp2_with (go_at_call 12; refine (KK.out _).mono ?_; rintro e w1 ⟨rfl, h⟩; subst h; refine Hid.out ?_)
      refine Lib.hid ?_
      go_wp2
      refine bodyPost_ret (v := .bool false) (by simp [results, Tryz.results19, go_sem]) rfl ?_
      exact ⟨rfl, HB.out⟩
    · rw [hk] at CK
      rw [Bool.true_and]
      have KK := Lib.hid CK; clear CK hk
      have h1' : (l.length : Int) ≤ 40 := by omega
      go_enter Tryz.func19, Tryz.ntmps19
      go_wp2_with (go_at_call 12; refine (KK.out _).mono ?_; rintro e w1 ⟨rfl, h⟩; subst h; refine Hid.out ?_)
      refine Lib.hid ?_
      go_wp2_with fail
      clear x0 x1 x4
      go_loopw [3] (fun iv wr => ∃ j : Nat, j ≤ l.length ∧ iv = .int .i64 (j : Int) ∧ l.all fewT = (l.drop j).all fewT ∧ Bx2 wr w.heap.size (.slice ao l.length c) (.string k) ∧ Below w.heap.size w wr) (fun iv _ => l.length - (intOf iv).toNat)
      case atStart => exact ⟨0, Nat.zero_le _, rfl, by rw [List.drop_zero], HX.out, HB.out⟩
      case round =>
        obtain ⟨j, hj, rfl, he, hx, hbw⟩ := hrel
        have x0 := hx.c0; have x1 := hx.c1; have x4 := hx.lt
        have HBW := Lib.hid hbw; have HXR := Lib.hid hx; have HE := Lib.hid he
        by_cases hlt : j < l.length
        · obtain ⟨b1, o1, rfl, -, k1⟩ := HA.out wr hbw j hlt
          have hd := all_drop l j hlt
          have CJ := fun (W : World) => fewText (l[j]'hlt) W
          generalize l[j]'hlt = sj at *
          have hj0 : (0 : Int) ≤ (j : Int) := by omega
          have hj1 : (j : Int) < (l.length : Int) := by omega
          cases hf : fewT sj
          · rw [hf] at CJ hd
            rw [Bool.false_and] at hd
            have hres := Lib.hid (he.trans hd)
            have KJ := Lib.hid CJ; clear CJ hd hf hbw hx he
            go_wp2_with (go_at_call 12; refine (KJ.out _).mono ?_; rintro e w1 ⟨rfl, h⟩; subst h; refine Hid.out ?_)
            refine Lib.hid ?_
            go_wp2
            go_ret
            exact ⟨by rw [hres.out]; rfl, HBW.out⟩
          · rw [hf] at CJ hd
            rw [Bool.true_and] at hd
            have hres := Lib.hid (he.trans hd)
            have KJ := Lib.hid CJ; clear CJ hd hf hbw hx he
            go_wp2_with (go_at_call 12; refine (KJ.out _).mono ?_; rintro e w1 ⟨rfl, h⟩; subst h; refine Hid.out ?_)
            refine Lib.hid ?_
            go_wp2
            go_roundw
            case rel => exact ⟨j + 1, by omega, by go_num, hres.out, HXR.out, HBW.out⟩
            case measure => simp [intOf]; omega
        · have hjn : j = l.length := by omega
          subst hjn
          have hres := Lib.hid (he.trans (by rw [List.drop_length]; rfl : (l.drop l.length).all fewT = true))
          clear hbw hx he
          go_wp2
          go_ret
          exact ⟨by rw [hres.out]; rfl, HBW.out⟩
  · rw [decide_eq_false h1, Bool.false_and]
    have h1' : (40 : Int) < (l.length : Int) := by omega
    clear CK
    go_enter Tryz.func19, Tryz.ntmps19
    go_wp2
    refine bodyPost_ret (v := .bool false) (by simp [results, Tryz.results19, go_sem]) rfl ?_
    exact ⟨rfl, HB.out⟩
end Go.Proofs.YtjobmkdaaionlaaGreatDoor

/-
  A linear expression by value, opened; lists of numbers as arguments.
-/
namespace Go.Proofs.YtjobmkdaaionlaaGreatDoor
open Go Go.Proofs Go.RowKit Go.ChangeShapes Go.WideShapes Go.ChangeMaps

theorem fewL_spec {l : List ByteArray} {k : ByteArray} (h : fewL l k = true) : l.length ≤ 40 ∧ ∀ s ∈ l ++ [k], s.size ≤ 450 := by
  unfold fewL fewT at h
  rw [Bool.and_eq_true, Bool.and_eq_true, decide_eq_true_eq, decide_eq_true_eq, List.all_eq_true] at h
  refine ⟨h.1, fun s hs => ?_⟩
  rcases List.mem_append.1 hs with q | q
  · exact of_decide_eq_true (h.2.2 s q)
  · rw [List.mem_singleton.1 q]; exact h.2.1

section
variable {H : Type} {enc : TypeId × Value → H} {P : Program} {w : World}
theorem open_linear {r : Reach} {b0 : Nat} {t e : TypeId} {f0 f1 : Field} {v : Value} {d : DataW H} {ps : List MemPlace} (ht : P.underlying t = some (.struct #[f0, f1])) (hone : Go.Deep.oneCellFields P #[f0, f1] = true) (hC : P.cellsOf t = 2)
    (h0 : P.underlying f0.type = some (.slice e)) (he : P.underlying e = some .string) (hc : P.cellsOf e = 1) (h1 : P.underlying f1.type = some .string)
    (hv : Value.okWide P w r b0 t v) (h : DataW.Trod enc P w 0 (fun _ => true) true t v d ps) :
    ∃ (ao : Option Addr) (c : Nat) (l : List ByteArray) (k : ByteArray), v = .agg #[.slice ao l.length c, .string k] ∧ SRow w ao c l ∧ (∀ s ∈ l ++ [k], s.size ≤ 9223372036854775807) ∧ l.length ≤ 9223372036854775807 := by
  obtain ⟨v0, v1, y0, y1, n, rfl, -, -, g0, g1⟩ := Go.Joins.open_agg2 ht hone hC hv h
  obtain ⟨ao, c, l, rfl, r, hs, hl⟩ := SRow.open h0 he hc g0
  obtain ⟨k, e1, -, k1⟩ := DataW.trod_string h1 g1
  cases e1
  refine ⟨ao, c, l, k, rfl, r, fun s h => ?_, hl⟩
  rcases List.mem_append.1 h with q | q
  · exact hs s q
  · rw [List.mem_singleton.1 q]; exact k1
end
end Go.Proofs.YtjobmkdaaionlaaGreatDoor

/-
  linear: the reference's Plus and Times of numbers of any length.
-/
set_option linter.unusedSimpArgs false
namespace Go.Proofs.YtjobmkdaaionlaaGreatDoor
open Go Go.Proofs Go.RowKit

theorem Good.bot {k : Nat} {s : ByteArray} (h : Good k s) (h0 : 0 < k) (hk : k ≤ 20000) (w : World) : Calls Tryz.prog 41 #[.string s] w fun e w' => e = .returned (.string (str (Lib.itoa ((rv s).den : Int)))) ∧ w' = w := by
  have := refBottom s w (h.sz2 h0 hk)
  rwa [h.text, botL_rat] at this
theorem rat_int {q : Rat} (h : q.den = 1) : q = (q.num : Rat) := by
  apply Rat.ext <;> simp [h]
end Go.Proofs.YtjobmkdaaionlaaGreatDoor

/-
  linear: the reference's Scaled.
-/
set_option linter.unusedSimpArgs false
namespace Go.Proofs.YtjobmkdaaionlaaGreatDoor
open Go Go.Proofs Go.RowKit

theorem rv_itN (d : Nat) : rv (itN d) = ((d : Int) : Rat) := by rw [itN_tq, rv_tq]
theorem int_div (z : Int) : (z : Rat) = Rat.divInt z 1 := by
  have := Rat.num_divInt_den (z : Rat)
  rw [Rat.num_intCast, Rat.den_intCast] at this
  exact this.symm
theorem bottomN {n : Nat} {s : ByteArray} (h : Good n s) (h0 : 0 < n) (hn : n ≤ 20000) (w : World) : Calls Tryz.prog 41 #[.string s] w (Bret (.string (itN (rv s).den)) w) :=
  (h.bot h0 hn w).mono fun e w' ⟨h1, h2⟩ => ⟨h1, by subst h2; exact Below.refl _ _⟩
theorem Bx2.drew {W : World} {p : Nat} {u v : Value} (h : Bx2 W p u v) : Bx2 W.drew p u v := ⟨h.c0, h.c1, h.f0, h.f1, h.lt⟩
end Go.Proofs.YtjobmkdaaionlaaGreatDoor

/-
  linear: the reference's Integral.
-/
set_option linter.unusedSimpArgs false
namespace Go.Proofs.YtjobmkdaaionlaaGreatDoor
open Go Go.Proofs Go.RowKit

/-- How many digits the numerator has. -/
def nd (s : ByteArray) : Nat := (Lib.decDigits (rv s).num.natAbs).length
def lg (s : ByteArray) : Bool := decide ((100 : Int) < (nd s : Nat))
end Go.Proofs.YtjobmkdaaionlaaGreatDoor

/-
  Mathematics of LinearClears: no divisor of the least common denominator is enough.
-/
set_option linter.unusedSimpArgs false
namespace Go.Proofs.YtjobmkdaaionlaaGreatDoor
open Go Go.Proofs Go.RowKit

theorem itN_one (d : Nat) : itN d = ⟨#[49]⟩ ↔ d = 1 := by
  constructor
  · intro h
    have h1 : itN d = itN 1 := h.trans (by kernel_rfl)
    have h2 := congrArg bytes h1
    unfold itN at h2
    rw [bytes_str, bytes_str] at h2
    have := itoa_inj h2
    omega
  · intro h; subst h; kernel_rfl
theorem lcmD_least {m : List ByteArray} {M : Nat} (h : ∀ s ∈ m, (rv s).den ∣ M) : lcmD m ∣ M := by
  have key : ∀ i, i ≤ m.length → lcmD (m.take i) ∣ M := by
    intro i
    induction i with
    | zero => intro _; rw [List.take_zero]; unfold lcmD; simp
    | succ i ih =>
      intro h1
      rw [lcmD_take m i (by omega)]
      exact Nat.lcm_dvd (ih (by omega)) (h _ (List.getElem_mem _))
  have := key m.length (Nat.le_refl _)
  rwa [List.take_of_length_le (Nat.le_refl _)] at this
theorem lcmD_pos (m : List ByteArray) : 0 < lcmD m := by
  have key : ∀ i, i ≤ m.length → 0 < lcmD (m.take i) := by
    intro i
    induction i with
    | zero => intro _; rw [List.take_zero]; unfold lcmD; simp
    | succ i ih =>
      intro h1
      rw [lcmD_take m i (by omega)]
      exact Nat.lcm_pos (ih (by omega)) (rv m[i]).den_pos
  have := key m.length (Nat.le_refl _)
  rwa [List.take_of_length_le (Nat.le_refl _)] at this
theorem rat_mul_int (q : Rat) (M z : Int) (h : q * (M : Rat) = (z : Rat)) : q.num * M = z * q.den := by
  have hd : ((q.den : Nat) : Int) ≠ 0 := by have := q.den_nz; omega
  rw [int_div, int_div] at h
  have e : q * Rat.divInt M 1 = Rat.divInt (q.num * M) (q.den * 1) := by
    conv => lhs; lhs; rw [← Rat.num_divInt_den q]
    rw [Rat.divInt_mul_divInt]
  rw [e, Int.mul_one, Rat.divInt_eq_divInt_iff hd (by decide), Int.mul_one] at h
  exact h
theorem den_dvd_of {q : Rat} {M : Int} (h : (q * (M : Rat)).den = 1) : q.den ∣ M.natAbs := by
  have e := rat_mul_int q M _ (rat_int h)
  have h1 : (q.den : Int) ∣ q.num * M := ⟨_, e.trans (Int.mul_comm _ _)⟩
  have h2 : q.den ∣ q.num.natAbs * M.natAbs := by
    have := Int.natAbs_dvd_natAbs.2 h1
    rwa [Int.natAbs_natCast, Int.natAbs_mul] at this
  exact (Nat.Coprime.symm q.reduced).dvd_of_dvd_mul_left h2
theorem less_not {cs : List ByteArray} {q : Rat} (hn : q.num = 1) (hd : 2 ≤ q.den) (h : ((((lcmD cs : Nat) : Int) : Rat) * q).den = 1) : ∃ c ∈ cs, ¬ (rv c * ((((lcmD cs : Nat) : Int) : Rat) * q)).den = 1 := by
  refine Classical.byContradiction fun hne => ?_
  have hall : ∀ c ∈ cs, (rv c * ((((lcmD cs : Nat) : Int) : Rat) * q)).den = 1 := fun c hc => Classical.byContradiction fun h2 => hne ⟨c, hc, h2⟩
  have hM := rat_int h
  generalize ((((lcmD cs : Nat) : Int) : Rat) * q).num = M at hM
  rw [hM] at hall
  have e := rat_mul_int q (lcmD cs : Int) M (by rw [Rat.mul_comm]; exact hM)
  rw [hn, Int.one_mul] at e
  have hdvd := lcmD_least fun c hc => den_dvd_of (hall c hc)
  have hp := lcmD_pos cs
  have e2 : lcmD cs = M.natAbs * q.den := by
    have := congrArg Int.natAbs e
    rwa [Int.natAbs_natCast, Int.natAbs_mul, Int.natAbs_natCast] at this
  generalize lcmD cs = L at *
  have hMp : 0 < M.natAbs := by
    rcases Nat.eq_zero_or_pos M.natAbs with h | h
    · rw [h, Nat.zero_mul] at e2; omega
    · exact h
  have hle := Nat.le_of_dvd hMp hdvd
  have : M.natAbs * 2 ≤ M.natAbs * q.den := Nat.mul_le_mul_left _ hd
  omega
/-- One over a small number. -/
structure Half (t : ByteArray) : Prop where
  good : Good 100 t
  num : (rv t).num = 1
  den : 2 ≤ (rv t).den
theorem half_of {t : ByteArray} {d : Nat} (h : t = tq (Rat.divInt 1 (d : Int))) (hd : 2 ≤ d) (hs : d < 10) : Half t := by
  have e : Rat.divInt 1 (d : Int) = ⟨1, d, by omega, Nat.coprime_one_left d⟩ := by
    rw [Rat.mk_eq_divInt]
  have hr : rv t = ⟨1, d, by omega, Nat.coprime_one_left d⟩ := by rw [h, rv_tq, e]
  refine ⟨?_, by rw [hr], by rw [hr]; exact hd⟩
  rw [h, e]
  refine Good.tq ⟨?_, ?_⟩
  · show (1 : Int).natAbs < 10 ^ 100; decide
  · show ((d : Nat) : Int).natAbs < 10 ^ 100
    rw [Int.natAbs_natCast]
    exact Nat.lt_of_lt_of_le hs (by decide)
theorem halves : ∀ t ∈ [(⟨#[49, 47, 50]⟩ : ByteArray), ⟨#[49, 47, 51]⟩, ⟨#[49, 47, 53]⟩, ⟨#[49, 47, 55]⟩], Half t := by
  intro t ht
  simp only [List.mem_cons, List.not_mem_nil, or_false] at ht
  rcases ht with rfl | rfl | rfl | rfl
  · exact half_of (d := 2) (by kernel_rfl) (by decide) (by decide)
  · exact half_of (d := 3) (by kernel_rfl) (by decide) (by decide)
  · exact half_of (d := 5) (by kernel_rfl) (by decide) (by decide)
  · exact half_of (d := 7) (by kernel_rfl) (by decide) (by decide)

/-- All products with the first j numbers are whole. -/
def wholeS (cs : List ByteArray) (less : ByteArray) (j : Nat) : Bool := (cs.take j).all fun c => decide ((rv (mulT c less)).den = 1)
theorem wholeS_zero (cs : List ByteArray) (less : ByteArray) : wholeS cs less 0 = true := by unfold wholeS; simp
theorem wholeS_next (cs : List ByteArray) (less : ByteArray) (j : Nat) (h : j < cs.length) : wholeS cs less (j + 1) = (wholeS cs less j && decide ((rv (mulT cs[j] less)).den = 1)) := by
  unfold wholeS
  rw [← List.take_append_getElem h, List.all_append]
  simp
theorem wholeS_not {cs : List ByteArray} {t : ByteArray} (ht : Half t) (h : (rv (mulT (itN (lcmD cs)) t)).den = 1) : wholeS cs (mulT (itN (lcmD cs)) t) cs.length = false := by
  rw [rv_mul, rv_itN] at h
  obtain ⟨c, hc, hn⟩ := less_not (cs := cs) ht.num ht.den h
  unfold wholeS
  rw [List.take_of_length_le (Nat.le_refl _), List.all_eq_false]
  exact ⟨c, hc, by rw [decide_eq_true_eq, rv_mul, rv_mul, rv_itN]; exact hn⟩
/-- The text of a positive number. -/
theorem itN_text {d : Nat} (h : 0 < d) : 0 < (itN d).size ∧ ¬ byteAt (itN d) 0 = 45 ∧ ¬ itN d = ⟨#[]⟩ ∧ ¬ itN d = ⟨#[48]⟩ := by
  have hb : bytes (itN d) = Lib.itoa (d : Int) := bytes_str _
  have hs : 0 < (itN d).size := by
    have h1 := txt_size hb
    omega
  refine ⟨hs, ?_, ?_, ?_⟩
  · have := txt_neg hb
    intro h45
    have hn := this
    simp [h45] at hn
    omega
  · intro he; rw [he] at hs; exact absurd hs (by decide)
  · intro he
    have h1 : itN d = itN 0 := he.trans (by kernel_rfl)
    have h2 := congrArg bytes h1
    unfold itN at h2
    rw [bytes_str, bytes_str] at h2
    have := itoa_inj h2
    omega
end Go.Proofs.YtjobmkdaaionlaaGreatDoor

/-
  linear: a list of numbers that is appended to an own empty one, as a step of a region that draws.
-/
set_option linter.unusedSimpArgs false
namespace Go.Proofs.YtjobmkdaaionlaaGreatDoor
open Go Go.Proofs Go.RowKit

theorem step_append_src {ops : Array Oper} {o : Oper} {a : Act} {W : World} {K : Act → World → Prop} {Q : Exit → Act → World → Prop} {E : Prop}
    (hg : o.guard = none) (s x : Operand) (hop : o.op = Op.call { callee := Callee.builtin Builtin.append, args := #[s, x], argTypes := #[25, 25] })
    (base : Nat) (v : Value) (hs : a.eval s = v) (hown : W.ownsRow base 22 1 v 0 [])
    (l : List ByteArray) (ao : Option Addr) (n c : Nat) (hnl : l.length = n) (hx : a.eval x = .slice ao n c) (hr : SRow W ao c l) (hn : n ≤ 1200000) (hbase : base ≤ W.heap.size)
    (hK : ∀ (v' : Value) (w9 : World), w9.ownsRow base 22 1 v' n (strCells l) → Below base W w9 → W.grownBy w9 v.ownBlock → K (a.put o.dst v') w9) :
    if Region.wanted o (yielded ops a.tmps) = true then Oper.wp Tryz.prog o a W K Q else E := by
  subst hnl
  have hw : Region.wanted o (yielded ops a.tmps) = true := by simp [Region.wanted, hg]
  rw [if_pos hw]
  obtain ⟨i0, hi, hz0, hz1, hz2⟩ := info_parts infoRat
  cases ao with
  | none =>
    have hl : l = [] := by
      rcases hr.2.2 with ⟨h, -⟩ | ⟨b, off, h, -⟩
      · exact h
      · cases h
    have hc : c = 0 := by
      rcases hr.2.2 with ⟨-, h⟩ | ⟨b, off, h, -⟩
      · exact h rfl
      · cases h
    subst hl hc
    have hrun := run_append_owned_none (P := Tryz.prog) (w := W) base 25 o.type 22 i0 1 Tryz.underlying25 hi v 0 [] hown
    have hx2 : a.eval x = .slice none 0 0 := hx
    unfold Oper.wp execOp
    simp only [hop, resolve, invoke, builtin, Sem.run_bind, Sem.run_pure, Result.andThen_ok, List.map_toArray, List.map_cons, List.map_nil, hs, hx2, hrun]
    exact hK v W hown (Below.refl _ _) (grown_refl _ _)
  | some ad =>
    have hget : ∀ j u, (strCells l)[j]? = some u → W.cell? (ad.add j) = some u := fun j u h => by
      rcases hr.2.2 with ⟨e, -⟩ | ⟨b, off, e, hlt, hc⟩
      · subst e; simp [strCells] at h
      · cases e
        have hj : j < l.length := by
          have := (List.getElem?_eq_some_iff.1 h).1
          rwa [strCells_length] at this
        rw [show ((⟨b, off, none⟩ : Addr).add j) = ⟨b, off + j, none⟩ by simp [Addr.add]]
        refine (hc j hj).trans ?_
        rw [← h]; simp [strCells, hj]
    obtain ⟨v', w', hrun, h2, h3, -, -⟩ := run_append_own_at (P := Tryz.prog) W base 25 o.type 22 i0 (.string ⟨#[]⟩) 1 16 Tryz.underlying25 hi hz0 hz1 hz2 rfl (by decide) v 0 [] hown ad l.length c (strCells l) (by rw [strCells_length, Nat.mul_one]) hget (by intro u hu; simp [strCells] at hu; obtain ⟨x, -, rfl⟩ := hu; rfl) (by unfold maxLen; omega) (by omega) hbase
    unfold Oper.wp execOp
    simp only [hop, resolve, invoke, builtin, Sem.run_bind, Sem.run_pure, Result.andThen_ok, List.map_toArray, List.map_cons, List.map_nil, hs, hx, hrun]
    refine hK v' w' ?_ ((Below.refl _ _).grown h3 hbase (fun k hk => (hown.lt k hk).1)) h3
    rw [Nat.zero_add] at h2
    exact h2
end Go.Proofs.YtjobmkdaaionlaaGreatDoor

/-
  The law LinearClears.
-/
set_option linter.unusedSimpArgs false
namespace Go.Proofs.YtjobmkdaaionlaaGreatDoor
open Go Go.Proofs Go.RowKit

theorem check_good {n : Nat} {s : ByteArray} (h : Good n s) (h0 : 0 < n) (hn : n ≤ 4096) (w : World) : Calls Tryz.prog 42 #[.string s] w (Bret (.int .i64 0) w) := by
  have hs := h.sz2 h0 (by omega)
  have := refCheck02 s w hs
  have d1 := decDigits_length_le _ n h0 h.rz.num
  have d2 := decDigits_length_le _ n h0 h.rz.den
  rw [Int.natAbs_natCast] at d2
  rw [h.text, rerr_rat (by omega) (by omega)] at this
  exact this
theorem ne_list {s : ByteArray} (h : 0 < s.size) : ¬ s.toList = [] := fun e => by
  rw [Lib.toList_data] at e
  have h1 := bytes_length s
  rw [show bytes s = [] from e] at h1
  simp at h1
  omega
/-- The four divisors. -/
def halfL : List ByteArray := [⟨#[49, 47, 50]⟩, ⟨#[49, 47, 51]⟩, ⟨#[49, 47, 53]⟩, ⟨#[49, 47, 55]⟩]

set_option maxRecDepth 20000 in
set_option maxHeartbeats 2000000 in
theorem lclears_main (l : List ByteArray) (k : ByteArray) (ao : Option Addr) (c : Nat) (w : World)
    (hr : SRow w ao c l) (hn : l.length ≤ 9223372036854775807) (htab : Lib.TabIs Tryz.prog w "internal/strconv.uint64pow10" .u64 Lib.pow10Tab) (hf : fewL l k = true) (h0 : linE l k = 0) :
    Calls Tryz.prog 10 #[.agg #[.slice ao l.length c, .string k]] w fun e w' => e = .returned (.bool true) ∧ Below w.heap.size w w' := by
  have hT := Lib.tabBelow_of_tabIs htab
  have CA : ∀ W : World, Below w.heap.size w W → Calls Tryz.prog 13 #[] W (Bret (.bool true) W) := fun W hW => awake03 W (hT.on hW).here
  have CF := fun (W : World) (hW : Below w.heap.size w W) => refFew l k ao c W (hr.mono hW) (by omega)
  rw [hf] at CF
  obtain ⟨f1, f2⟩ := fewL_spec hf
  have z1 : ∀ s ∈ l ++ [k], s.size ≤ 1200000 := fun s hs => Nat.le_trans (f2 s hs) (by decide)
  have CH := fun (W : World) (hW : Below w.heap.size w W) => refLinCheck l k ao c W (hr.mono hW) (fun s hs => z1 s (List.mem_append_left _ hs)) (z1 k (by simp)) (by omega)
  rw [h0] at CH
  have CI := fun (W : World) (hW : Below w.heap.size w W) => linIntegral l k ao c W (hr.mono hW) z1 (by omega) (hT.on hW).here
  obtain ⟨g1, g2⟩ := linE_zero h0
  have X := Bx2.new w (.slice ao l.length c) (.string k) 27
  have B : Below w.heap.size w (w.alloc (Obj.cells #[.slice ao l.length c, .string k] 27)) := (Below.refl _ _).alloc (Nat.le_refl _) _
  have x0 := X.c0; have x1 := X.c1; have x2 := X.lt
  unfold intAll at CI
  rw [if_pos h0] at CI
  have gD : Good 3401 (itN (lcmD (l ++ [k]))) := (lcmD_good (l ++ [k]) g2).mono (by simp; omega)
  have hcs : intO (l.map fun s => mulT s (itN (lcmD (l ++ [k])))) (mulT k (itN (lcmD (l ++ [k])))) (itN (lcmD (l ++ [k]))) = ⟨l.map fun s => mulT s (itN (lcmD (l ++ [k]))), mulT k (itN (lcmD (l ++ [k]))), itN (lcmD (l ++ [k])), 0⟩ ∨ intO (l.map fun s => mulT s (itN (lcmD (l ++ [k])))) (mulT k (itN (lcmD (l ++ [k])))) (itN (lcmD (l ++ [k]))) = .bad 10 := by
    unfold intO; split
    · exact .inl rfl
    · exact .inr rfl
  rcases hcs with hcs | hcs
  · rw [hcs] at CI
    have CM : ∀ (j : Nat) (hj : j < l.length) (W : World), Below w.heap.size w W → Calls Tryz.prog 40 #[.string (l[j]'hj), .string (itN (lcmD (l ++ [k])))] W (Bret (.tuple #[.string ((l.map fun s => mulT s (itN (lcmD (l ++ [k])))).getD j ⟨#[]⟩), .int .i64 0]) W) := fun j hj W hW => by
      rw [getD_get _ (by simpa using hj), List.getElem_map]
      exact rmulG (g2 _ (List.mem_append_left _ (List.getElem_mem hj))) gD (by decide) W (hT.on hW).here
    have CMK : ∀ W, Below w.heap.size w W → Calls Tryz.prog 40 #[.string k, .string (itN (lcmD (l ++ [k])))] W (Bret (.tuple #[.string (mulT k (itN (lcmD (l ++ [k])))), .int .i64 0]) W) := fun W hW => rmulG (g2 k (by simp)) gD (by decide) W (hT.on hW).here
    have CL : ∀ t, Half t → ∀ W, Below w.heap.size w W → Calls Tryz.prog 40 #[.string (itN (lcmD (l ++ [k]))), .string t] W (Bret (.tuple #[.string (mulT (itN (lcmD (l ++ [k]))) t), .int .i64 0]) W) := fun t ht W hW => rmulG gD ht.good (by decide) W (hT.on hW).here
    have gL : ∀ t, Half t → Good (3401 + 100) (mulT (itN (lcmD (l ++ [k]))) t) := fun t ht => gD.mul ht.good
    have CB : ∀ t, Half t → ∀ W, Calls Tryz.prog 41 #[.string (mulT (itN (lcmD (l ++ [k]))) t)] W (Bret (.string (itN (rv (mulT (itN (lcmD (l ++ [k]))) t)).den)) W) := fun t ht W => bottomN (gL t ht) (by decide) (by decide) W
    have CY : ∀ t, Half t → ∀ (j : Nat) (hj : j < (l ++ [k]).length) (W : World), Below w.heap.size w W → Calls Tryz.prog 40 #[.string ((l ++ [k])[j]'hj), .string (mulT (itN (lcmD (l ++ [k]))) t)] W (Bret (.tuple #[.string (mulT ((l ++ [k])[j]'hj) (mulT (itN (lcmD (l ++ [k]))) t)), .int .i64 0]) W) := fun t ht j hj W hW => rmulG (g2 _ (List.getElem_mem hj)) (gL t ht) (by decide) W (hT.on hW).here
    have gY : ∀ t, Half t → ∀ (j : Nat) (hj : j < (l ++ [k]).length), Good (100 + (3401 + 100)) (mulT ((l ++ [k])[j]'hj) (mulT (itN (lcmD (l ++ [k]))) t)) := fun t ht j hj => (g2 _ (List.getElem_mem hj)).mul (gL t ht)
    have CYC : ∀ t, Half t → ∀ (j : Nat) (hj : j < (l ++ [k]).length) (W : World), Calls Tryz.prog 42 #[.string (mulT ((l ++ [k])[j]'hj) (mulT (itN (lcmD (l ++ [k]))) t))] W (Bret (.int .i64 0) W) := fun t ht j hj W => check_good (gY t ht j hj) (by decide) (by decide) W
    have CYB : ∀ t, Half t → ∀ (j : Nat) (hj : j < (l ++ [k]).length) (W : World), Calls Tryz.prog 41 #[.string (mulT ((l ++ [k])[j]'hj) (mulT (itN (lcmD (l ++ [k]))) t))] W (Bret (.string (itN (rv (mulT ((l ++ [k])[j]'hj) (mulT (itN (lcmD (l ++ [k]))) t))).den)) W) := fun t ht j hj W => bottomN (gY t ht j hj) (by decide) (by decide) W
    have hW0 : ∀ t, wholeS (l ++ [k]) (mulT (itN (lcmD (l ++ [k]))) t) 0 = true := fun t => wholeS_zero _ _
    have hWN : ∀ t (j : Nat) (hj : j < (l ++ [k]).length), wholeS (l ++ [k]) (mulT (itN (lcmD (l ++ [k]))) t) (j + 1) = (wholeS (l ++ [k]) (mulT (itN (lcmD (l ++ [k]))) t) j && decide ((rv (mulT ((l ++ [k])[j]'hj) (mulT (itN (lcmD (l ++ [k]))) t))).den = 1)) := fun t j hj => wholeS_next _ _ j hj
    have hWE : ∀ t, Half t → (rv (mulT (itN (lcmD (l ++ [k]))) t)).den = 1 → wholeS (l ++ [k]) (mulT (itN (lcmD (l ++ [k]))) t) (l ++ [k]).length = false := fun t ht h => wholeS_not ht h
    obtain ⟨dd1, dd2, dd3, dd4⟩ := itN_text (lcmD_pos (l ++ [k]))
    have dd5 := byteAt_get (itN (lcmD (l ++ [k]))) 0 dd1
    have q0 : ¬ (itN (lcmD (l ++ [k]))).toList = [] := ne_list dd1
    have q1 : (itN (lcmD (l ++ [k]))).toList.isEmpty = false := by rw [List.isEmpty_eq_false_iff]; exact q0
    have q2 : ((((byteAt (itN (lcmD (l ++ [k]))) 0 : Nat) : Int) == 45)) = false := by rw [beq_eq_false_iff_ne]; omega
    have q3 : ((itN (lcmD (l ++ [k]))).toList == [48]) = false := eqLit _ [48] (fun e => dd4 (by rw [← str_bytes (itN (lcmD (l ++ [k]))), e]; rfl))
    have hml : (l.map fun s => mulT s (itN (lcmD (l ++ [k])))).length = l.length := by simp
    have hkl : (l ++ [k]).length = l.length + 1 := by simp
    have hrow : ∀ W, Below w.heap.size w W → ∀ j (hj : j < l.length), ∃ b off, ao = some ⟨b, off, none⟩ ∧ b < W.heap.size ∧ W.cell? ⟨b, off + j, none⟩ = some (.string (l[j]'hj)) := fun W hW => (hr.mono hW).get
    unfold IntRet at CI
    dsimp only at CI
    rw [hml] at CI
    rw [hkl] at hWE
    have hrm : ∀ W, Below w.heap.size w W → SRow W ao c l := fun W hW => hr.mono hW
    have gks : k.size ≤ 1200000 := z1 k (by simp)
    clear gL gY gD hcs g2 hf h0 f2 z1 hT htab hr
    have hlc : ∀ W, Below w.heap.size w W → True := fun _ _ => trivial
    clear hlc
    generalize (l.map fun s => mulT s (itN (lcmD (l ++ [k])))) = m at *
    generalize mulT k (itN (lcmD (l ++ [k]))) = kk at *
    generalize itN (lcmD (l ++ [k])) = dd at *
    have KA := Lib.hid CA; have KF := Lib.hid CF; have KH := Lib.hid CH; have KI := Lib.hid CI; have KM := Lib.hid CM; have KMK := Lib.hid CMK; have KL := Lib.hid CL; have KB := Lib.hid CB; have KY := Lib.hid CY; have KYC := Lib.hid CYC; have KYB := Lib.hid CYB; have HW0 := Lib.hid hW0; have HWN := Lib.hid hWN; have HWE := Lib.hid hWE; have HML := Lib.hid hml; have HKL := Lib.hid hkl; have HROW := Lib.hid hrow; have HRM := Lib.hid hrm
    clear CA CF CH CI CM CMK CL CB CY CYC CYB hW0 hWN hWE hml hkl hrow hrm
    go_enter Tryz.func10, Tryz.ntmps10
    go_wp2_with (go_at_call 19; refine (KF.out _ B).mono ?_; rintro e w0 ⟨rfl, hb0⟩; refine Hid.out ?_)
    have B0 := Below.chain B hb0; have X0 := X.mono hb0
    clear hb0 B X x0 x1 x2
    have x0 := X0.c0; have x1 := X0.c1; have x2 := X0.lt
    refine Lib.hid ?_
    go_wp2_with (go_at_call 27; refine (KH.out _ B0).mono ?_; rintro e w1 ⟨rfl, hb1⟩; refine Hid.out ?_)
    have B1 := Below.chain B0 hb1; have X1 := X0.mono hb1
    clear hb1 B0 X0 x0 x1 x2
    have x0 := X1.c0; have x1 := X1.c1; have x2 := X1.lt
    refine Lib.hid ?_
    go_wp2_with (go_at_call 22; refine (KI.out _ B1).mono ?_; rintro e w2 ⟨a3, c3, rfl, r3, hb2⟩; refine Hid.out ?_)
    have B2 := Below.chain B1 hb2; have X2 := X1.mono hb2
    have hrow3 : ∀ W, Below w2.heap.size w2 W → ∀ t (ht : t < m.length), ∃ b off, a3 = some ⟨b, off, none⟩ ∧ b < W.heap.size ∧ W.cell? ⟨b, off + t, none⟩ = some (.string (m[t]'ht)) := fun W hW => (r3.1.mono hW).get
    have HROW3 := Lib.hid hrow3; have HB2 := Lib.hid B2; have HX2 := Lib.hid X2
    clear hb2 B1 X1 x0 x1 x2 hrow3 r3 B2
    have x0 := X2.c0; have x1 := X2.c1; have x2 := X2.lt
    clear X2
    refine Lib.hid ?_
    go_wp2_with fail
    go_loopw [67] (fun iv wr => ∃ (j : Nat), j ≤ l.length ∧ iv = .int .i64 (j : Int) ∧ Below w2.heap.size w2 wr) (fun iv _ => l.length - (intOf iv).toNat)
    case atStart => exact ⟨0, Nat.zero_le _, rfl, Below.refl _ _⟩
    case round =>
      obtain ⟨j, hj, rfl, hB⟩ := hrel
      have hBw := Below.chain HB2.out hB
      clear x0 x1 x2
      have bx := HX2.out.mono hB
      by_cases hlt : j < l.length
      · obtain ⟨b, off, rfl, hbl, hcl⟩ := HROW.out wr hBw j hlt
        have hjm : j < m.length := by rw [HML.out]; exact hlt
        have hgd : m.getD j ⟨#[]⟩ = m[j]'hjm := getD_get m hjm
        have C1 := KM.out j hlt wr hBw
        rw [hgd] at C1
        have hj0 : (0 : Int) ≤ (j : Int) := by omega
        have hj1 : (j : Int) < (l.length : Int) := by omega
        have hrow : ∀ W, Below w2.heap.size w2 W → ∃ b off, a3 = some ⟨b, off, none⟩ ∧ b < W.heap.size ∧ W.cell? ⟨b, off + j, none⟩ = some (.string (m[j]'hjm)) := fun W hW => HROW3.out W hW j hjm
        clear hgd
        generalize m[j]'hjm = mj at *
        generalize l[j]'hlt = lj at *
        have K1 := Lib.hid C1
        have HR := Lib.hid hrow; have HBq := Lib.hid hB
        have x0 := bx.c0; have x2 := bx.lt
        clear C1 hrow hB hBw bx
        go_wp2_with (go_at_call 40; refine K1.out.mono ?_; rintro e w3 ⟨rfl, hb3⟩; refine Hid.out ?_)
        have hB3 := Below.chain HBq.out hb3
        obtain ⟨b3, off3, rfl, hbl3, hcl3⟩ := HR.out w3 hB3
        have HB3 := Lib.hid hB3
        clear hb3 hB3 hcl hbl x0 x2
        refine Lib.hid ?_
        go_wp2
        go_roundw
        case rel => exact ⟨j + 1, by omega, by go_num, HB3.out⟩
        case measure => simp [intOf]; omega
      · have hjn : j = l.length := by omega
        subst hjn
        have K1 := Lib.hid (KMK.out wr hBw)
        have x0 := bx.c0; have x1 := bx.c1; have x2 := bx.lt
        have HBw := Lib.hid hBw; have HBX := Lib.hid bx
        clear hB hBw bx
        go_wp2_with (go_at_call 40; refine K1.out.mono ?_; rintro e w3 ⟨rfl, hb3⟩; refine Hid.out ?_)
        have HB3 := Lib.hid (Below.chain HBw.out hb3); have HX3 := Lib.hid (HBX.out.mono hb3)
        clear hb3 x0 x1 x2
        refine Lib.hid ?_
        go_wp2_with fail
        have N4 := nb (Below.refl w3.heap.size w3) (Obj.cells #[.string ⟨#[49, 47, 50]⟩, .string ⟨#[49, 47, 51]⟩, .string ⟨#[49, 47, 53]⟩, .string ⟨#[49, 47, 55]⟩] 22)
        have hc4 : ∀ i, i < 4 → (w3.alloc (Obj.cells #[.string ⟨#[49, 47, 50]⟩, .string ⟨#[49, 47, 51]⟩, .string ⟨#[49, 47, 53]⟩, .string ⟨#[49, 47, 55]⟩] 22)).cell? ⟨w3.heap.size, i, none⟩ = some (.string (halfL.getD i ⟨#[]⟩)) := fun i hi => by
          match i, hi with
          | 0, _ => exact (show _ = some (Value.string ⟨#[49, 47, 50]⟩) from by go_cell)
          | 1, _ => exact (show _ = some (Value.string ⟨#[49, 47, 51]⟩) from by go_cell)
          | 2, _ => exact (show _ = some (Value.string ⟨#[49, 47, 53]⟩) from by go_cell)
          | 3, _ => exact (show _ = some (Value.string ⟨#[49, 47, 55]⟩) from by go_cell)
        have hlt4 : w3.heap.size < (w3.alloc (Obj.cells #[.string ⟨#[49, 47, 50]⟩, .string ⟨#[49, 47, 51]⟩, .string ⟨#[49, 47, 53]⟩, .string ⟨#[49, 47, 55]⟩] 22)).heap.size := by simp
        have HX4 := Lib.hid (HX3.out.mono N4); have HB4 := Lib.hid (Below.chain HB3.out N4)
        generalize w3.alloc (Obj.cells #[.string ⟨#[49, 47, 50]⟩, .string ⟨#[49, 47, 51]⟩, .string ⟨#[49, 47, 53]⟩, .string ⟨#[49, 47, 55]⟩] 22) = W4 at *
        generalize w3.heap.size = p4 at *
        have HC4 := Lib.hid hc4
        clear N4 hc4
        go_loopw [105] (fun iv wr => ∃ (j : Nat), j ≤ 4 ∧ iv = .int .i64 (j : Int) ∧ Below W4.heap.size W4 wr) (fun iv _ => 4 - (intOf iv).toNat)
        case atStart => exact ⟨0, Nat.zero_le _, rfl, Below.refl _ _⟩
        case round =>
          rename World => wq
          obtain ⟨j, hj, rfl, hB⟩ := hrel
          have hBw := Below.chain HB4.out hB
          by_cases hlt : j < 4
          · have hc := (hB.cell (p := ⟨p4, j, none⟩) hlt4).trans (HC4.out j hlt)
            have hlen4 : j < halfL.length := hlt
            have ht : Half (halfL.getD j ⟨#[]⟩) := by rw [getD_get _ hlen4]; exact halves _ (List.getElem_mem hlen4)
            generalize halfL.getD j ⟨#[]⟩ = t at *
            have hj0 : (0 : Int) ≤ (j : Int) := by omega
            have hj1 : (j : Int) < 4 := by omega
            have C1 := KL.out t ht wq hBw
            have C2 := KB.out t ht
            have C3 := KY.out t ht; have C4 := KYC.out t ht; have C5 := KYB.out t ht
            have e0 := HW0.out t; have eN := HWN.out t; have eE := HWE.out t ht
            generalize mulT dd t = ls at *
            have K1 := Lib.hid C1; have K2 := Lib.hid C2; have K3 := Lib.hid C3; have K4 := Lib.hid C4; have K5 := Lib.hid C5
            have E0 := Lib.hid e0; have EN := Lib.hid eN; have EE := Lib.hid eE
            have HBq := Lib.hid hB; have HBw := Lib.hid hBw
            clear C1 C2 C3 C4 C5 e0 eN eE hB hBw ht
            by_cases hd1 : (rv ls).den = 1
            · have EE1 := Lib.hid (EE.out hd1)
              have h49 : itN (rv ls).den = ⟨#[49]⟩ := (itN_one _).2 hd1
              have K2' := K2.out
              rw [h49] at K2'
              have K6 := Lib.hid K2'
              clear K2' h49 hd1 K2
              go_wp2_with (go_at_call 40; refine K1.out.mono ?_; rintro e w5 ⟨rfl, hb5⟩; refine Hid.out ?_)
              have HB5 := Lib.hid (Below.chain HBq.out hb5)
              clear hb5 hc
              refine Lib.hid ?_
              go_wp2_with (go_at_call 41; refine (K6.out _).mono ?_; rintro e w6 ⟨rfl, hb6⟩; refine Hid.out ?_)
              have HB6 := Lib.hid (Below.chain HB5.out hb6)
              clear hb6
              refine Lib.hid ?_
              go_upto_region 26 with fail
              have bX6 := HX4.out.mono HB6.out
              have hB6w := Below.chain HB4.out HB6.out
              have K0 : ∀ W : World, Below w6.heap.size w6 W → (W.cell? ⟨w.heap.size, 0, none⟩ = some (.slice ao l.length c) ∧ W.cell? ⟨w.heap.size, 1, none⟩ = some (.string k)) ∧ SRow W ao c l ∧ Below w.heap.size w W := fun W hW => ⟨⟨(bX6.mono hW).c0, (bX6.mono hW).c1⟩, HRM.out _ (Below.chain hB6w hW), Below.chain hB6w hW⟩
              obtain ⟨i0, hi, hz0, hz1, hz2⟩ := info_parts infoRat
              have hD : Below w6.heap.size w6 w6.drew := (Below.refl _ _).drew
              have hE1 : Below w6.heap.size w6 (w6.alloc (Obj.cells #[] 22)).drew := ((Below.refl _ _).alloc (Nat.le_refl _) _).drew
              have hE2 : Below w6.heap.size w6 ((w6.alloc (Obj.cells #[] 22)).alloc (Obj.cells #[.string k] 22)).drew := (((Below.refl w6.heap.size w6).alloc (Nat.le_refl _) (Obj.cells #[] 22)).alloc (by simp) (Obj.cells #[.string k] 22)).drew
              have hE3 : Below w6.heap.size w6 (w6.alloc (Obj.cells #[.string k] 22)).drew := ((Below.refl _ _).alloc (Nat.le_refl _) _).drew
              have hE4 : Below w6.heap.size w6 ((w6.alloc (Obj.cells #[.string k] 22)).alloc (Obj.cells #[] 22)).drew := (((Below.refl w6.heap.size w6).alloc (Nat.le_refl _) (Obj.cells #[.string k] 22)).alloc (by simp) (Obj.cells #[] 22)).drew
              have o1 : (w6.alloc (Obj.cells #[] 22)).drew.ownsRow w6.heap.size 22 1 (.slice (some ⟨w6.heap.size, 0, none⟩) 0 0) 0 [] := World.ownsRow_lit w6 #[] 0 (Nat.le_refl _) (by decide) rfl
              have o2 : ((w6.alloc (Obj.cells #[] 22)).alloc (Obj.cells #[.string k] 22)).drew.ownsRow w6.heap.size 22 1 (.slice (some ⟨w6.heap.size, 0, none⟩) 0 0) 0 [] := o1.alloc (Obj.cells #[.string k] 22)
              have o4 : ((w6.alloc (Obj.cells #[.string k] 22)).alloc (Obj.cells #[] 22)).drew.ownsRow w6.heap.size 22 1 (.slice (some ⟨w6.heap.size + 1, 0, none⟩) 0 0) 0 [] := by
                have := World.ownsRow_lit (base := w6.heap.size) (e := 22) (size := 1) (w6.alloc (Obj.cells #[.string k] 22)) #[] 0 (by simp) (by decide) rfl
                rw [show (w6.alloc (Obj.cells #[.string k] 22)).heap.size = w6.heap.size + 1 from World.size_alloc w6 _] at this
                exact this
              have hk2 : ((w6.alloc (Obj.cells #[] 22)).alloc (Obj.cells #[.string k] 22)).drew.cell? ⟨w6.heap.size + 1, 0, none⟩ = some (.string k) := by go_cell
              have hk4 : ((w6.alloc (Obj.cells #[.string k] 22)).alloc (Obj.cells #[] 22)).drew.cell? ⟨w6.heap.size, 0, none⟩ = some (.string k) := by go_cell
              have KK := Lib.hid K0
              have hl32 : l.length ≤ 1000 := by omega
              clear bX6 hB6w K0
              go_region_held3 (fun w' => w'.cell? ⟨w.heap.size, 0, none⟩ = some (Value.slice ao l.length c) ∧ w'.cell? ⟨w.heap.size, 1, none⟩ = some (Value.string k)) (first | (with_reducible exact (KK.out _ hD).1) | (with_reducible exact (KK.out _ hE1).1) | (with_reducible exact (KK.out _ hE2).1) | (with_reducible exact (KK.out _ hE3).1) | (with_reducible exact (KK.out _ hE4).1) | (with_reducible exact (KK.out _ hB1).1) | (with_reducible exact (KK.out _ (hB1.alloc hB1.size _)).1) | (with_reducible exact (KK.out _ hB9).1) | fail) (first
                | ((with_reducible refine step_append_src rfl (.tmp 120) (.tmp 122) rfl w6.heap.size _ (by simp [Act.eval, Act.put]) o1 l ao l.length c rfl (by simp [Act.eval, Act.put]) (KK.out _ hE1).2.1 (by omega) hE1.size ?_); intro v1 w9 ho1 hbb hgr; have hB1 := hE1.trans hbb)
                | ((with_reducible refine step_append_src rfl (.tmp 120) (.tmp 122) rfl w6.heap.size _ (by simp [Act.eval, Act.put]) o2 l ao l.length c rfl (by simp [Act.eval, Act.put]) (KK.out _ hE2).2.1 (by omega) hE2.size ?_); intro v1 w9 ho1 hbb hgr; have hB1 := hE2.trans hbb; have hkk2 := gcell hgr hk2 (by simp [Value.ownBlock]))
                | ((with_reducible refine step_append_src rfl (.tmp 120) (.tmp 122) rfl w6.heap.size _ (by simp [Act.eval, Act.put]) o4 l ao l.length c rfl (by simp [Act.eval, Act.put]) (KK.out _ hE4).2.1 (by omega) hE4.size ?_); intro v1 w9 ho1 hbb hgr; have hB1 := hE4.trans hbb; have hkk4 := gcell hgr hk4 (by simp [Value.ownBlock]))
                | (refine step_append_lies _ rfl (.tmp 123) (.tmp 126) 25 rfl w6.heap.size 22 i0 (.string ⟨#[]⟩) 1 16 Tryz.underlying25 hi hz0 hz1 hz2 rfl (by decide) v1 l.length (strCells l) (by simp [Act.eval, Act.put]) (ho1.alloc _) ⟨w9.heap.size, 0, none⟩ 1 1 [.string k] (by simp [Act.eval, Act.put]) rfl (cell_one_new _ _ _) (by intro u hu; simp at hu; subst hu; rfl) (by decide) (by unfold maxLen; omega) (by omega) ?_ _ rfl ?_; (exact Nat.le_trans hB1.size (by simp)); intro g cap w10 hown9 hgrow _ hg9; have hB9 := (hB1.alloc hB1.size _).grown hgrow (Nat.le_trans hB1.size (by simp)) (fun k hk => (ho1.lt k hk).1))
                | (have hkk := hkk2; refine step_append_lies _ rfl (.tmp 123) (.tmp 126) 25 rfl w6.heap.size 22 i0 (.string ⟨#[]⟩) 1 16 Tryz.underlying25 hi hz0 hz1 hz2 rfl (by decide) v1 l.length (strCells l) (by simp [Act.eval, Act.put]) ho1 ⟨w6.heap.size + 1, 0, none⟩ 1 1 [.string k] (by simp [Act.eval, Act.put]) rfl (fun j u hj => by match j, hj with | 0, hj => (simp at hj; subst hj; exact hkk)) (by intro u hu; simp at hu; subst hu; rfl) (by decide) (by unfold maxLen; omega) (by omega) ?_ _ rfl ?_; (exact hB1.size); intro g cap w10 hown9 hgrow _ hg9; have hB9 := hB1.grown hgrow hB1.size (fun k hk => (ho1.lt k hk).1))
                | (have hkk := hkk4; refine step_append_lies _ rfl (.tmp 123) (.tmp 126) 25 rfl w6.heap.size 22 i0 (.string ⟨#[]⟩) 1 16 Tryz.underlying25 hi hz0 hz1 hz2 rfl (by decide) v1 l.length (strCells l) (by simp [Act.eval, Act.put]) ho1 ⟨w6.heap.size, 0, none⟩ 1 1 [.string k] (by simp [Act.eval, Act.put]) rfl (fun j u hj => by match j, hj with | 0, hj => (simp at hj; subst hj; exact hkk)) (by intro u hu; simp at hu; subst hu; rfl) (by decide) (by unfold maxLen; omega) (by omega) ?_ _ rfl ?_; (exact hB1.size); intro g cap w10 hown9 hgrow _ hg9; have hB9 := hB1.grown hgrow hB1.size (fun k hk => (ho1.lt k hk).1)))
              all_goals
                rw [show strCells l ++ [Value.string k] = strCells (l ++ [k]) from (strCells_append l [k]).symm] at hown9
                obtain ⟨sb, sl, sc, sm, -⟩ := sblk_of_owns hown9
                have hO : ∀ W, Below w10.heap.size w10 W → ∀ i (hi : i < (l ++ [k]).length), W.cell? ⟨g, i, none⟩ = some (.string ((l ++ [k])[i]'hi)) ∧ g < W.heap.size := fun W hW i hi => ⟨(sb.keep hW).cell i hi, (sb.keep hW).lt⟩
                have HO := Lib.hid hO
                have HB9 := Lib.hid (Below.chain HB6.out hB9)
                have HL32 := Lib.hid hl32
                clear hown9 sb sl sm hO hB9 hD hE1 hE2 hE3 hE4 o1 o2 o4 hk2 hk4 hi hz0 hz1 hz2
                (try clear hB1)
                (try clear ho1)
                (try clear hgrow)
                generalize wholeS (l ++ [k]) ls = S at *
                go_wp2_with fail
                go_loopw [17, 129] (fun bv iv wr => ∃ (i : Nat), i ≤ l.length + 1 ∧ bv = .bool (S i) ∧ iv = .int .i64 (i : Int) ∧ Below w10.heap.size w10 wr) (fun _ iv _ => l.length + 1 - (intOf iv).toNat)
                case atStart => exact ⟨0, Nat.zero_le _, by rw [E0.out], rfl, Below.refl _ _⟩
                case round =>
                  rename World => wi
                  obtain ⟨i, hi, rfl, rfl, hB⟩ := hrel
                  have hBo := Below.chain HB9.out hB
                  have hBw := Below.chain HB4.out hBo
                  by_cases hlt2 : i < l.length + 1
                  · have hkl : i < (l ++ [k]).length := by rw [HKL.out]; exact hlt2
                    obtain ⟨hc, hg⟩ := HO.out _ hB i hkl
                    have C3 := K3.out i hkl wi hBw
                    have C4 := K4.out i hkl; have C5 := K5.out i hkl
                    have eN := EN.out i hkl
                    generalize (l ++ [k])[i]'hkl = ci at *
                    generalize mulT ci ls = yi at *
                    have hi0 : (0 : Int) ≤ (i : Int) := by omega
                    have hi1 : (i : Int) < (l.length : Int) + 1 := by omega
                    have HB := Lib.hid hB
                    have KM9 := Lib.hid C3; have KC9 := Lib.hid C4; have KB9 := Lib.hid C5; have EN9 := Lib.hid eN
                    clear C3 C4 C5 eN hB hBo hBw
                    cases hS : S i
                    · have hn1 : S (i + 1) = false := by rw [EN9.out, hS]; rfl
                      have HN1 := Lib.hid hn1
                      clear hn1 EN9 hS
                      go_wp2_with (go_at_call 40; refine KM9.out.mono ?_; rintro e w11 ⟨rfl, hb11⟩; refine Hid.out ?_)
                      have HB11 := Lib.hid (Below.chain HB.out hb11)
                      clear hb11 hc
                      refine Lib.hid ?_
                      go_wp2
                      go_roundw
                      case rel => exact ⟨i + 1, by omega, by rw [HN1.out], by go_num, HB11.out⟩
                      case measure => simp [intOf]; omega
                    · by_cases hd : (rv yi).den = 1
                      · have hn1 : S (i + 1) = true := by rw [EN9.out, hS, decide_eq_true hd]; rfl
                        have h49 : itN (rv yi).den = ⟨#[49]⟩ := (itN_one _).2 hd
                        have K2' := KB9.out
                        rw [h49] at K2'
                        have HN1 := Lib.hid hn1; have KB1 := Lib.hid K2'
                        clear hn1 EN9 hS K2' KB9 h49 hd
                        go_wp2_with (go_at_call 40; refine KM9.out.mono ?_; rintro e w11 ⟨rfl, hb11⟩; refine Hid.out ?_)
                        have B11 := Below.chain HB.out hb11
                        clear hb11 hc
                        refine Lib.hid ?_
                        go_wp2_with (go_at_call 42; refine (KC9.out _).mono ?_; rintro e w12 ⟨rfl, hb12⟩; refine Hid.out ?_)
                        have B12 := Below.chain B11 hb12
                        clear hb12 B11
                        refine Lib.hid ?_
                        go_wp2_with (go_at_call 41; refine (KB1.out _).mono ?_; rintro e w13 ⟨rfl, hb13⟩; refine Hid.out ?_)
                        have HB13 := Lib.hid (Below.chain B12 hb13)
                        clear hb13 B12
                        refine Lib.hid ?_
                        go_wp2
                        go_roundw
                        case rel => exact ⟨i + 1, by omega, by rw [HN1.out], by go_num, HB13.out⟩
                        case measure => simp [intOf]; omega
                      · have hn1 : S (i + 1) = false := by rw [EN9.out, hS, decide_eq_false hd]; rfl
                        have h49 : ((itN (rv yi).den).toList == [49]) = false := eqLit _ [49] (fun e => hd ((itN_one _).1 (by rw [← str_bytes (itN (rv yi).den), e]; rfl)))
                        have HN1 := Lib.hid hn1
                        generalize itN (rv yi).den = bs at *
                        clear hn1 EN9 hS hd
                        go_wp2_with (go_at_call 40; refine KM9.out.mono ?_; rintro e w11 ⟨rfl, hb11⟩; refine Hid.out ?_)
                        have B11 := Below.chain HB.out hb11
                        clear hb11 hc
                        refine Lib.hid ?_
                        go_wp2_with (go_at_call 42; refine (KC9.out _).mono ?_; rintro e w12 ⟨rfl, hb12⟩; refine Hid.out ?_)
                        have B12 := Below.chain B11 hb12
                        clear hb12 B11
                        refine Lib.hid ?_
                        go_wp2_with (go_at_call 41; refine (KB9.out _).mono ?_; rintro e w13 ⟨rfl, hb13⟩; refine Hid.out ?_)
                        have HB13 := Lib.hid (Below.chain B12 hb13)
                        clear hb13 B12
                        refine Lib.hid ?_
                        go_wp2
                        go_roundw
                        case rel => exact ⟨i + 1, by omega, by rw [HN1.out], by go_num, HB13.out⟩
                        case measure => simp [intOf]; omega
                  · have hin : i = l.length + 1 := by omega
                    subst hin
                    have hS := EE1.out
                    rw [hS]
                    have HBo := Lib.hid hBo
                    clear hB hBo hBw hS
                    go_wp2
                    go_roundw
                    case rel => exact ⟨j + 1, by omega, by go_num, HBo.out⟩
                    case measure => simp [intOf]; omega
            · have h49 : ((itN (rv ls).den).toList == [49]) = false := eqLit _ [49] (fun e => hd1 ((itN_one _).1 (by rw [← str_bytes (itN (rv ls).den), e]; rfl)))
              generalize itN (rv ls).den = bs at *
              clear hd1
              go_wp2_with (go_at_call 40; refine K1.out.mono ?_; rintro e w5 ⟨rfl, hb5⟩; refine Hid.out ?_)
              have HB5 := Lib.hid (Below.chain HBq.out hb5)
              clear hb5 hc
              refine Lib.hid ?_
              go_wp2_with (go_at_call 41; refine (K2.out _).mono ?_; rintro e w6 ⟨rfl, hb6⟩; refine Hid.out ?_)
              have HB6 := Lib.hid (Below.chain HB5.out hb6)
              clear hb6
              refine Lib.hid ?_
              go_wp2
              go_roundw
              case rel => exact ⟨j + 1, by omega, by go_num, HB6.out⟩
              case measure => simp [intOf]; omega
          · have hjn : j = 4 := by omega
            subst hjn
            have BL := hBw
            clear hBw hB
            go_wp2_with (go_at_call 13; refine (KA.out _ BL).mono ?_; rintro e w9 ⟨rfl, hb9⟩; refine Hid.out ?_)
            have B9 := Below.chain BL hb9; clear hb9 BL
            refine Lib.hid ?_
            go_wp2
            refine bodyPost_ret (v := .bool true) (by simp [results, Tryz.results10, go_sem]) rfl ?_
            exact ⟨rfl, B9⟩
  · rw [hcs] at CI
    unfold IntRet at CI
    dsimp only [IOut.bad] at CI
    clear gD hcs g2 hf h0 f2 z1 hT htab hr
    have KA := Lib.hid CA; have KF := Lib.hid CF; have KH := Lib.hid CH; have KI := Lib.hid CI
    clear CA CF CH CI
    generalize l.length = n at *
    go_enter Tryz.func10, Tryz.ntmps10
    go_wp2_with (go_at_call 19; refine (KF.out _ B).mono ?_; rintro e w0 ⟨rfl, hb0⟩; refine Hid.out ?_)
    have B0 := Below.chain B hb0; have X0 := X.mono hb0
    clear hb0 B X x0 x1 x2
    have x0 := X0.c0; have x1 := X0.c1; have x2 := X0.lt
    refine Lib.hid ?_
    go_wp2_with (go_at_call 27; refine (KH.out _ B0).mono ?_; rintro e w1 ⟨rfl, hb1⟩; refine Hid.out ?_)
    have B1 := Below.chain B0 hb1; have X1 := X0.mono hb1
    clear hb1 B0 X0 x0 x1 x2
    have x0 := X1.c0; have x1 := X1.c1; have x2 := X1.lt
    refine Lib.hid ?_
    go_wp2_with (go_at_call 22; refine (KI.out _ B1).mono ?_; rintro e w2 ⟨a3, c3, rfl, -, hb2⟩; refine Hid.out ?_)
    have BL := Below.chain B1 hb2
    clear hb2 B1 X1 x0 x1 x2
    refine Lib.hid ?_
    go_wp2_with (go_at_call 13; refine (KA.out _ BL).mono ?_; rintro e w9 ⟨rfl, hb9⟩; refine Hid.out ?_)
    have B9 := Below.chain BL hb9; clear hb9 BL
    refine Lib.hid ?_
    go_wp2
    refine bodyPost_ret (v := .bool true) (by simp [results, Tryz.results10, go_sem]) rfl ?_
    exact ⟨rfl, B9⟩

set_option maxRecDepth 20000 in
set_option maxHeartbeats 2000000 in
theorem lclears_walk (l : List ByteArray) (k : ByteArray) (ao : Option Addr) (c : Nat) (w : World)
    (hr : SRow w ao c l) (_hz : ∀ s ∈ l ++ [k], s.size ≤ 9223372036854775807) (hn : l.length ≤ 9223372036854775807) (htab : Lib.TabIs Tryz.prog w "internal/strconv.uint64pow10" .u64 Lib.pow10Tab) :
    Calls Tryz.prog 10 #[.agg #[.slice ao l.length c, .string k]] w fun e w' => e = .returned (.bool true) ∧ Below w.heap.size w w' := by
  have hT := Lib.tabBelow_of_tabIs htab
  have CA : ∀ W : World, Below w.heap.size w W → Calls Tryz.prog 13 #[] W (Bret (.bool true) W) := fun W hW => awake03 W (hT.on hW).here
  have CF := fun (W : World) (hW : Below w.heap.size w W) => refFew l k ao c W (hr.mono hW) (by omega)
  have X := Bx2.new w (.slice ao l.length c) (.string k) 27
  have B : Below w.heap.size w (w.alloc (Obj.cells #[.slice ao l.length c, .string k] 27)) := (Below.refl _ _).alloc (Nat.le_refl _) _
  have x0 := X.c0; have x1 := X.c1; have x2 := X.lt
  cases hf : fewL l k
  · rw [hf] at CF
    generalize l.length = n at *
    have KA := Lib.hid CA; have KF := Lib.hid CF
    clear CA CF hT htab hr _hz hf
    go_enter Tryz.func10, Tryz.ntmps10
    go_wp2_with (go_at_call 19; refine (KF.out _ B).mono ?_; rintro e w0 ⟨rfl, hb0⟩; refine Hid.out ?_)
    have BL := Below.chain B hb0; clear hb0 B
    refine Lib.hid ?_
    go_wp2_with (go_at_call 13; refine (KA.out _ BL).mono ?_; rintro e w1 ⟨rfl, hb1⟩; refine Hid.out ?_)
    have B1 := Below.chain BL hb1; clear hb1 BL
    refine Lib.hid ?_
    go_wp2
    refine bodyPost_ret (v := .bool true) (by simp [results, Tryz.results10, go_sem]) rfl ?_
    exact ⟨rfl, B1⟩
  · by_cases h0 : linE l k = 0
    · exact lclears_main l k ao c w hr hn htab hf h0
    · rw [hf] at CF
      obtain ⟨f1, f2⟩ := fewL_spec hf
      have z1 : ∀ s ∈ l ++ [k], s.size ≤ 1200000 := fun s hs => Nat.le_trans (f2 s hs) (by decide)
      have CH := fun (W : World) (hW : Below w.heap.size w W) => refLinCheck l k ao c W (hr.mono hW) (fun s hs => z1 s (List.mem_append_left _ hs)) (z1 k (by simp)) (by omega)
      have hne : ¬ ((linE l k : Nat) : Int) = 0 := by omega
      generalize linE l k = ee at *
      generalize l.length = n at *
      have KA := Lib.hid CA; have KF := Lib.hid CF; have KH := Lib.hid CH
      clear CA CF CH hT htab hr _hz hf f1 f2 z1
      go_enter Tryz.func10, Tryz.ntmps10
      go_wp2_with (go_at_call 19; refine (KF.out _ B).mono ?_; rintro e w0 ⟨rfl, hb0⟩; refine Hid.out ?_)
      have B0 := Below.chain B hb0; have X0 := X.mono hb0
      clear hb0 B X x0 x1 x2
      have x0 := X0.c0; have x1 := X0.c1; have x2 := X0.lt
      refine Lib.hid ?_
      go_wp2_with (go_at_call 27; refine (KH.out _ B0).mono ?_; rintro e w2 ⟨rfl, hb2⟩; refine Hid.out ?_)
      have BL := Below.chain B0 hb2; clear hb2 B0 X0 x0 x1 x2
      refine Lib.hid ?_
      go_wp2_with (go_at_call 13; refine (KA.out _ BL).mono ?_; rintro e w1 ⟨rfl, hb1⟩; refine Hid.out ?_)
      have B1 := Below.chain BL hb1; clear hb1 BL
      refine Lib.hid ?_
      go_wp2
      refine bodyPost_ret (v := .bool true) (by simp [results, Tryz.results10, go_sem]) rfl ?_
      exact ⟨rfl, B1⟩
end Go.Proofs.YtjobmkdaaionlaaGreatDoor

