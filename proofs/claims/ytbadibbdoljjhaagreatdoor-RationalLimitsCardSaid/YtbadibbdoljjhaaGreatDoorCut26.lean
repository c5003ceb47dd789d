import Derived.Test.YtbadibbdoljjhaaGreatDoorCut25

set_option linter.unusedVariables false
/-
  rational: combine, the operations.
-/
namespace Go.Proofs.YtbadibbdoljjhaaGreatDoor
open Go Go.Proofs Go.RowKit

/-- A rational number with a numerator and a denominator that are not too long, as a struct of its parts. -/
structure RatS (q : Rat) : Prop where
  num : Str (str (Lib.itoa q.num)) q.num
  den : Str (str (Lib.itoa (q.den : Int))) (q.den : Int)
def ratS (q : Rat) : Value := fracV (str (Lib.itoa q.num)) (str (Lib.itoa (q.den : Int)))
def trip (u v : ByteArray) (e : Nat) : Value := .tuple #[.string u, .string v, .int .i64 (e : Nat)]
def combV (l m r d : Int) : Value :=
  if Fits l ∧ Fits m then (if Fits r then (if Fits d then trip (str (Lib.itoa r)) (str (Lib.itoa d)) 0 else trip (str (Lib.itoa r)) ⟨#[]⟩ 10) else trip ⟨#[]⟩ ⟨#[]⟩ 10) else trip ⟨#[]⟩ ⟨#[]⟩ 10

set_option maxHeartbeats 4000000 in
theorem combineAdd (p q : Rat) (w : World) (hp : RatS p) (hq : RatS q) (htab : Lib.TabIs Tryz.prog w "internal/strconv.uint64pow10" .u64 Lib.pow10Tab) :
    Calls Tryz.prog 205 #[.func (.func 78) #[] #[], ratS p, ratS q] w (Bret (combV (p.num * q.den) (q.num * p.den) (p.num * q.den + q.num * p.den) ((p.den : Int) * q.den)) w) := by
  have hT := Lib.tabBelow_of_tabIs htab
  have C1 : ∀ W : World, Below w.heap.size w W → Calls Tryz.prog 107 #[.string (str (Lib.itoa p.num)), .string (str (Lib.itoa (q.den : Int))), .string (str (Lib.itoa q.num)), .string (str (Lib.itoa (p.den : Int)))] W (Bret (prodR (p.num * q.den) (q.num * p.den)) W) := fun W hW => products_rat _ _ _ _ _ _ _ _ W hp.num hq.den hq.num hp.den (hT.on hW).here
  have C3 : ∀ W : World, Below w.heap.size w W → Calls Tryz.prog 57 #[.string (str (Lib.itoa (p.den : Int))), .string (str (Lib.itoa (q.den : Int)))] W (Bret (resV ((p.den : Int) * q.den)) W) := fun W hW => mulZ _ _ _ _ W hp.den hq.den (hT.on hW).here
  have C2 : Fits (p.num * q.den) → Fits (q.num * p.den) → ∀ W : World, Below w.heap.size w W → Calls Tryz.prog 78 #[.string (str (Lib.itoa (p.num * q.den))), .string (str (Lib.itoa (q.num * p.den)))] W (Bret (resV (p.num * q.den + q.num * p.den)) W) := fun f1 f2 W hW => addZ _ _ _ _ W (str_itoa (Nat.le_of_not_lt f1)) (str_itoa (Nat.le_of_not_lt f2)) (hT.on hW).here
  unfold ratS fracV
  generalize p.num * q.den + q.num * p.den = r at *
  generalize p.num * q.den = l at *
  generalize q.num * p.den = m at *
  generalize (p.den : Int) * q.den = d at *
  have T0 := tbox_new w 103 (str (Lib.itoa p.num)) (str (Lib.itoa (p.den : Int))) (str (Lib.itoa q.num)) (str (Lib.itoa (q.den : Int)))
  generalize str (Lib.itoa p.num) = a1 at *
  generalize str (Lib.itoa (p.den : Int)) = a2 at *
  generalize str (Lib.itoa q.num) = b1 at *
  generalize str (Lib.itoa (q.den : Int)) = b2 at *
  clear hp hq hT htab
  unfold combV trip
  unfold prodR at C1
  by_cases h1 : Fits l ∧ Fits m
  · rw [if_pos h1] at C1 ⊢
    replace C2 := C2 h1.1 h1.2
    generalize str (Lib.itoa l) = sl at *
    generalize str (Lib.itoa m) = sm at *
    by_cases h2 : Fits r
    · rw [if_pos h2]
      rw [resV_fits h2] at C2
      generalize str (Lib.itoa r) = sr at *
      by_cases h3 : Fits d
      · rw [if_pos h3]
        rw [resV_fits h3] at C3
        generalize str (Lib.itoa d) = sd at *
        have K1 := Lib.hid C1; have K2 := Lib.hid C2; have K3 := Lib.hid C3; clear C1 C2 C3 h1 h2 h3
        go_enter Tryz.func205, Tryz.ntmps205
        go_wp2_with (go_at_call 107; refine (K1.out _ T0.below).mono ?_; rintro e w1 ⟨rfl, hb1⟩; refine Hid.out ?_)
        have T1 := T0.mono hb1
        clear T0 hb1
        refine Lib.hid ?_
        go_wp2_with (go_at_call 78; refine (K2.out _ T1.below).mono ?_; rintro e w2 ⟨rfl, hb2⟩; refine Hid.out ?_)
        have T2 := T1.mono hb2
        clear T1 hb2
        have a0 := T2.a0; have a1' := T2.a1; have c0 := T2.c0; have c1 := T2.c1; have sz := T2.sz
        have H2 := Lib.hid T2
        refine Lib.hid ?_
        go_wp2_with (go_at_call 57; refine (K3.out _ H2.out.below).mono ?_; rintro e w3 ⟨rfl, hb3⟩; refine Hid.out ?_)
        have hB := Below.chain H2.out.below hb3
        clear T2 hb3 H2 a0 a1' c0 c1 sz
        have HB := Lib.hid hB; clear hB
        refine Lib.hid ?_
        go_wp2
        refine bodyPost_ret (by simp [results, Tryz.results205, go_sem]; rfl) rfl ?_
        exact ⟨rfl, HB.out⟩
      · rw [if_neg h3]
        rw [resV_long (Nat.lt_of_not_le (fun h => h3 (Nat.not_lt_of_le h)))] at C3
        have K1 := Lib.hid C1; have K2 := Lib.hid C2; have K3 := Lib.hid C3; clear C1 C2 C3 h1 h2 h3
        go_enter Tryz.func205, Tryz.ntmps205
        go_wp2_with (go_at_call 107; refine (K1.out _ T0.below).mono ?_; rintro e w1 ⟨rfl, hb1⟩; refine Hid.out ?_)
        have T1 := T0.mono hb1
        clear T0 hb1
        refine Lib.hid ?_
        go_wp2_with (go_at_call 78; refine (K2.out _ T1.below).mono ?_; rintro e w2 ⟨rfl, hb2⟩; refine Hid.out ?_)
        have T2 := T1.mono hb2
        clear T1 hb2
        have a0 := T2.a0; have a1' := T2.a1; have c0 := T2.c0; have c1 := T2.c1; have sz := T2.sz
        have H2 := Lib.hid T2
        refine Lib.hid ?_
        go_wp2_with (go_at_call 57; refine (K3.out _ H2.out.below).mono ?_; rintro e w3 ⟨rfl, hb3⟩; refine Hid.out ?_)
        have hB := Below.chain H2.out.below hb3
        clear T2 hb3 H2 a0 a1' c0 c1 sz
        have HB := Lib.hid hB; clear hB
        refine Lib.hid ?_
        go_wp2
        refine bodyPost_ret (by simp [results, Tryz.results205, go_sem]; rfl) rfl ?_
        exact ⟨rfl, HB.out⟩
    · rw [if_neg h2]
      rw [resV_long (Nat.lt_of_not_le (fun h => h2 (Nat.not_lt_of_le h)))] at C2
      have K1 := Lib.hid C1; have K2 := Lib.hid C2; clear C1 C2 C3 h1 h2
      go_enter Tryz.func205, Tryz.ntmps205
      go_wp2_with (go_at_call 107; refine (K1.out _ T0.below).mono ?_; rintro e w1 ⟨rfl, hb1⟩; refine Hid.out ?_)
      have T1 := T0.mono hb1
      clear T0 hb1
      refine Lib.hid ?_
      go_wp2_with (go_at_call 78; refine (K2.out _ T1.below).mono ?_; rintro e w2 ⟨rfl, hb2⟩; refine Hid.out ?_)
      have T2 := T1.mono hb2
      clear T1 hb2
      have hB := T2.below
      clear T2
      have HB := Lib.hid hB; clear hB
      refine Lib.hid ?_
      go_wp2
      refine bodyPost_ret (by simp [results, Tryz.results205, go_sem]; rfl) rfl ?_
      exact ⟨rfl, HB.out⟩
  · rw [if_neg h1] at C1 ⊢
    have K1 := Lib.hid C1; clear C1 C2 C3 h1
    go_enter Tryz.func205, Tryz.ntmps205
    go_wp2_with (go_at_call 107; refine (K1.out _ T0.below).mono ?_; rintro e w1 ⟨rfl, hb1⟩; refine Hid.out ?_)
    have T1 := T0.mono hb1
    clear T0 hb1
    have hB := T1.below
    clear T1
    have HB := Lib.hid hB; clear hB
    refine Lib.hid ?_
    go_wp2
    refine bodyPost_ret (by simp [results, Tryz.results205, go_sem]; rfl) rfl ?_
    exact ⟨rfl, HB.out⟩

set_option maxHeartbeats 4000000 in
theorem combineSub (p q : Rat) (w : World) (hp : RatS p) (hq : RatS q) (htab : Lib.TabIs Tryz.prog w "internal/strconv.uint64pow10" .u64 Lib.pow10Tab) :
    Calls Tryz.prog 205 #[.func (.func 53) #[] #[], ratS p, ratS q] w (Bret (combV (p.num * q.den) (q.num * p.den) (p.num * q.den - q.num * p.den) ((p.den : Int) * q.den)) w) := by
  have hT := Lib.tabBelow_of_tabIs htab
  have C1 : ∀ W : World, Below w.heap.size w W → Calls Tryz.prog 107 #[.string (str (Lib.itoa p.num)), .string (str (Lib.itoa (q.den : Int))), .string (str (Lib.itoa q.num)), .string (str (Lib.itoa (p.den : Int)))] W (Bret (prodR (p.num * q.den) (q.num * p.den)) W) := fun W hW => products_rat _ _ _ _ _ _ _ _ W hp.num hq.den hq.num hp.den (hT.on hW).here
  have C3 : ∀ W : World, Below w.heap.size w W → Calls Tryz.prog 57 #[.string (str (Lib.itoa (p.den : Int))), .string (str (Lib.itoa (q.den : Int)))] W (Bret (resV ((p.den : Int) * q.den)) W) := fun W hW => mulZ _ _ _ _ W hp.den hq.den (hT.on hW).here
  have C2 : Fits (p.num * q.den) → Fits (q.num * p.den) → ∀ W : World, Below w.heap.size w W → Calls Tryz.prog 53 #[.string (str (Lib.itoa (p.num * q.den))), .string (str (Lib.itoa (q.num * p.den)))] W (Bret (resV (p.num * q.den - q.num * p.den)) W) := fun f1 f2 W hW => subZ _ _ _ _ W (str_itoa (Nat.le_of_not_lt f1)) (str_itoa (Nat.le_of_not_lt f2)) (hT.on hW).here
  unfold ratS fracV
  generalize p.num * q.den - q.num * p.den = r at *
  generalize p.num * q.den = l at *
  generalize q.num * p.den = m at *
  generalize (p.den : Int) * q.den = d at *
  have T0 := tbox_new w 103 (str (Lib.itoa p.num)) (str (Lib.itoa (p.den : Int))) (str (Lib.itoa q.num)) (str (Lib.itoa (q.den : Int)))
  generalize str (Lib.itoa p.num) = a1 at *
  generalize str (Lib.itoa (p.den : Int)) = a2 at *
  generalize str (Lib.itoa q.num) = b1 at *
  generalize str (Lib.itoa (q.den : Int)) = b2 at *
  clear hp hq hT htab
  unfold combV trip
  unfold prodR at C1
  by_cases h1 : Fits l ∧ Fits m
  · rw [if_pos h1] at C1 ⊢
    replace C2 := C2 h1.1 h1.2
    generalize str (Lib.itoa l) = sl at *
    generalize str (Lib.itoa m) = sm at *
    by_cases h2 : Fits r
    · rw [if_pos h2]
      rw [resV_fits h2] at C2
      generalize str (Lib.itoa r) = sr at *
      by_cases h3 : Fits d
      · rw [if_pos h3]
        rw [resV_fits h3] at C3
        generalize str (Lib.itoa d) = sd at *
        have K1 := Lib.hid C1; have K2 := Lib.hid C2; have K3 := Lib.hid C3; clear C1 C2 C3 h1 h2 h3
        go_enter Tryz.func205, Tryz.ntmps205
        go_wp2_with (go_at_call 107; refine (K1.out _ T0.below).mono ?_; rintro e w1 ⟨rfl, hb1⟩; refine Hid.out ?_)
        have T1 := T0.mono hb1
        clear T0 hb1
        refine Lib.hid ?_
        go_wp2_with (go_at_call 53; refine (K2.out _ T1.below).mono ?_; rintro e w2 ⟨rfl, hb2⟩; refine Hid.out ?_)
        have T2 := T1.mono hb2
        clear T1 hb2
        have a0 := T2.a0; have a1' := T2.a1; have c0 := T2.c0; have c1 := T2.c1; have sz := T2.sz
        have H2 := Lib.hid T2
        refine Lib.hid ?_
        go_wp2_with (go_at_call 57; refine (K3.out _ H2.out.below).mono ?_; rintro e w3 ⟨rfl, hb3⟩; refine Hid.out ?_)
        have hB := Below.chain H2.out.below hb3
        clear T2 hb3 H2 a0 a1' c0 c1 sz
        have HB := Lib.hid hB; clear hB
        refine Lib.hid ?_
        go_wp2
        refine bodyPost_ret (by simp [results, Tryz.results205, go_sem]; rfl) rfl ?_
        exact ⟨rfl, HB.out⟩
      · rw [if_neg h3]
        rw [resV_long (Nat.lt_of_not_le (fun h => h3 (Nat.not_lt_of_le h)))] at C3
        have K1 := Lib.hid C1; have K2 := Lib.hid C2; have K3 := Lib.hid C3; clear C1 C2 C3 h1 h2 h3
        go_enter Tryz.func205, Tryz.ntmps205
        go_wp2_with (go_at_call 107; refine (K1.out _ T0.below).mono ?_; rintro e w1 ⟨rfl, hb1⟩; refine Hid.out ?_)
        have T1 := T0.mono hb1
        clear T0 hb1
        refine Lib.hid ?_
        go_wp2_with (go_at_call 53; refine (K2.out _ T1.below).mono ?_; rintro e w2 ⟨rfl, hb2⟩; refine Hid.out ?_)
        have T2 := T1.mono hb2
        clear T1 hb2
        have a0 := T2.a0; have a1' := T2.a1; have c0 := T2.c0; have c1 := T2.c1; have sz := T2.sz
        have H2 := Lib.hid T2
        refine Lib.hid ?_
        go_wp2_with (go_at_call 57; refine (K3.out _ H2.out.below).mono ?_; rintro e w3 ⟨rfl, hb3⟩; refine Hid.out ?_)
        have hB := Below.chain H2.out.below hb3
        clear T2 hb3 H2 a0 a1' c0 c1 sz
        have HB := Lib.hid hB; clear hB
        refine Lib.hid ?_
        go_wp2
        refine bodyPost_ret (by simp [results, Tryz.results205, go_sem]; rfl) rfl ?_
        exact ⟨rfl, HB.out⟩
    · rw [if_neg h2]
      rw [resV_long (Nat.lt_of_not_le (fun h => h2 (Nat.not_lt_of_le h)))] at C2
      have K1 := Lib.hid C1; have K2 := Lib.hid C2; clear C1 C2 C3 h1 h2
      go_enter Tryz.func205, Tryz.ntmps205
      go_wp2_with (go_at_call 107; refine (K1.out _ T0.below).mono ?_; rintro e w1 ⟨rfl, hb1⟩; refine Hid.out ?_)
      have T1 := T0.mono hb1
      clear T0 hb1
      refine Lib.hid ?_
      go_wp2_with (go_at_call 53; refine (K2.out _ T1.below).mono ?_; rintro e w2 ⟨rfl, hb2⟩; refine Hid.out ?_)
      have T2 := T1.mono hb2
      clear T1 hb2
      have hB := T2.below
      clear T2
      have HB := Lib.hid hB; clear hB
      refine Lib.hid ?_
      go_wp2
      refine bodyPost_ret (by simp [results, Tryz.results205, go_sem]; rfl) rfl ?_
      exact ⟨rfl, HB.out⟩
  · rw [if_neg h1] at C1 ⊢
    have K1 := Lib.hid C1; clear C1 C2 C3 h1
    go_enter Tryz.func205, Tryz.ntmps205
    go_wp2_with (go_at_call 107; refine (K1.out _ T0.below).mono ?_; rintro e w1 ⟨rfl, hb1⟩; refine Hid.out ?_)
    have T1 := T0.mono hb1
    clear T0 hb1
    have hB := T1.below
    clear T1
    have HB := Lib.hid hB; clear hB
    refine Lib.hid ?_
    go_wp2
    refine bodyPost_ret (by simp [results, Tryz.results205, go_sem]; rfl) rfl ?_
    exact ⟨rfl, HB.out⟩

set_option maxHeartbeats 1000000 in
theorem oper1 (p q : Rat) (w : World) (hp : RatS p) (hq : RatS q) (htab : Lib.TabIs Tryz.prog w "internal/strconv.uint64pow10" .u64 Lib.pow10Tab) :
    Calls Tryz.prog 204 #[ratS p, ratS q] w (Bret (combV (p.num * q.den) (q.num * p.den) (p.num * q.den + q.num * p.den) ((p.den : Int) * q.den)) w) := by
  have C1 : ∀ W : World, Below w.heap.size w W → Calls Tryz.prog 205 #[.func (.func 78) #[] #[], ratS p, ratS q] W (Bret (combV (p.num * q.den) (q.num * p.den) (p.num * q.den + q.num * p.den) ((p.den : Int) * q.den)) W) := fun W hW => combineAdd p q W hp hq ((Lib.tabBelow_of_tabIs htab).on hW).here
  obtain ⟨u, v, e0, hr⟩ : ∃ u v e0, combV (p.num * q.den) (q.num * p.den) (p.num * q.den + q.num * p.den) ((p.den : Int) * q.den) = trip u v e0 := by unfold combV; (repeat' split) <;> exact ⟨_, _, _, rfl⟩
  rw [hr] at C1 ⊢
  unfold ratS fracV trip at *
  have T0 := tbox_new w 103 (str (Lib.itoa p.num)) (str (Lib.itoa (p.den : Int))) (str (Lib.itoa q.num)) (str (Lib.itoa (q.den : Int)))
  generalize str (Lib.itoa p.num) = a1 at *
  generalize str (Lib.itoa (p.den : Int)) = a2 at *
  generalize str (Lib.itoa q.num) = b1 at *
  generalize str (Lib.itoa (q.den : Int)) = b2 at *
  have K1 := Lib.hid C1; have HT := Lib.hid T0; clear C1 hp hq htab hr T0
  go_enter Tryz.func204, Tryz.ntmps204
  go_wp2_with (go_at_call 205; refine (K1.out _ HT.out.below).mono ?_; rintro e w1 ⟨rfl, hb1⟩; refine Hid.out ?_)
  have HB := Lib.hid (Below.chain HT.out.below hb1); clear hb1
  refine Lib.hid ?_
  go_wp2
  refine bodyPost_ret (by simp [results, Tryz.results204, go_sem]; rfl) rfl ?_
  exact ⟨rfl, HB.out⟩
set_option maxHeartbeats 1000000 in
theorem oper2 (p q : Rat) (w : World) (hp : RatS p) (hq : RatS q) (htab : Lib.TabIs Tryz.prog w "internal/strconv.uint64pow10" .u64 Lib.pow10Tab) :
    Calls Tryz.prog 206 #[ratS p, ratS q] w (Bret (combV (p.num * q.den) (q.num * p.den) (p.num * q.den - q.num * p.den) ((p.den : Int) * q.den)) w) := by
  have C1 : ∀ W : World, Below w.heap.size w W → Calls Tryz.prog 205 #[.func (.func 53) #[] #[], ratS p, ratS q] W (Bret (combV (p.num * q.den) (q.num * p.den) (p.num * q.den - q.num * p.den) ((p.den : Int) * q.den)) W) := fun W hW => combineSub p q W hp hq ((Lib.tabBelow_of_tabIs htab).on hW).here
  obtain ⟨u, v, e0, hr⟩ : ∃ u v e0, combV (p.num * q.den) (q.num * p.den) (p.num * q.den - q.num * p.den) ((p.den : Int) * q.den) = trip u v e0 := by unfold combV; (repeat' split) <;> exact ⟨_, _, _, rfl⟩
  rw [hr] at C1 ⊢
  unfold ratS fracV trip at *
  have T0 := tbox_new w 103 (str (Lib.itoa p.num)) (str (Lib.itoa (p.den : Int))) (str (Lib.itoa q.num)) (str (Lib.itoa (q.den : Int)))
  generalize str (Lib.itoa p.num) = a1 at *
  generalize str (Lib.itoa (p.den : Int)) = a2 at *
  generalize str (Lib.itoa q.num) = b1 at *
  generalize str (Lib.itoa (q.den : Int)) = b2 at *
  have K1 := Lib.hid C1; have HT := Lib.hid T0; clear C1 hp hq htab hr T0
  go_enter Tryz.func206, Tryz.ntmps206
  go_wp2_with (go_at_call 205; refine (K1.out _ HT.out.below).mono ?_; rintro e w1 ⟨rfl, hb1⟩; refine Hid.out ?_)
  have HB := Lib.hid (Below.chain HT.out.below hb1); clear hb1
  refine Lib.hid ?_
  go_wp2
  refine bodyPost_ret (by simp [results, Tryz.results206, go_sem]; rfl) rfl ?_
  exact ⟨rfl, HB.out⟩
set_option maxHeartbeats 1000000 in
theorem oper3 (p q : Rat) (w : World) (hp : RatS p) (hq : RatS q) (htab : Lib.TabIs Tryz.prog w "internal/strconv.uint64pow10" .u64 Lib.pow10Tab) :
    Calls Tryz.prog 207 #[ratS p, ratS q] w (Bret (prodR (p.num * q.num) ((p.den : Int) * q.den)) w) := by
  have C1 : ∀ W : World, Below w.heap.size w W → Calls Tryz.prog 107 #[.string (str (Lib.itoa p.num)), .string (str (Lib.itoa q.num)), .string (str (Lib.itoa (p.den : Int))), .string (str (Lib.itoa (q.den : Int)))] W (Bret (prodR (p.num * q.num) ((p.den : Int) * q.den)) W) := fun W hW => products_rat _ _ _ _ _ _ _ _ W hp.num hq.num hp.den hq.den ((Lib.tabBelow_of_tabIs htab).on hW).here
  obtain ⟨u, v, e0, hr⟩ : ∃ u v e0, prodR (p.num * q.num) ((p.den : Int) * q.den) = trip u v e0 := by unfold prodR; (repeat' split) <;> exact ⟨_, _, _, rfl⟩
  rw [hr] at C1 ⊢
  unfold ratS fracV trip at *
  have T0 := tbox_new w 103 (str (Lib.itoa p.num)) (str (Lib.itoa (p.den : Int))) (str (Lib.itoa q.num)) (str (Lib.itoa (q.den : Int)))
  generalize str (Lib.itoa p.num) = a1 at *
  generalize str (Lib.itoa (p.den : Int)) = a2 at *
  generalize str (Lib.itoa q.num) = b1 at *
  generalize str (Lib.itoa (q.den : Int)) = b2 at *
  have K1 := Lib.hid C1; have HT := Lib.hid T0; clear C1 hp hq htab hr T0
  go_enter Tryz.func207, Tryz.ntmps207
  go_wp2_with (go_at_call 107; refine (K1.out _ HT.out.below).mono ?_; rintro e w1 ⟨rfl, hb1⟩; refine Hid.out ?_)
  have HB := Lib.hid (Below.chain HT.out.below hb1); clear hb1
  refine Lib.hid ?_
  go_wp2
  refine bodyPost_ret (by simp [results, Tryz.results207, go_sem]; rfl) rfl ?_
  exact ⟨rfl, HB.out⟩
set_option maxHeartbeats 1000000 in
theorem oper4 (p q : Rat) (w : World) (hp : RatS p) (hq : RatS q) (h0 : q.num ≠ 0) (htab : Lib.TabIs Tryz.prog w "internal/strconv.uint64pow10" .u64 Lib.pow10Tab) :
    Calls Tryz.prog 208 #[ratS p, ratS q] w (Bret (prodR (p.num * q.den) ((p.den : Int) * q.num)) w) := by
  have C1 : ∀ W : World, Below w.heap.size w W → Calls Tryz.prog 107 #[.string (str (Lib.itoa p.num)), .string (str (Lib.itoa (q.den : Int))), .string (str (Lib.itoa (p.den : Int))), .string (str (Lib.itoa q.num))] W (Bret (prodR (p.num * q.den) ((p.den : Int) * q.num)) W) := fun W hW => products_rat _ _ _ _ _ _ _ _ W hp.num hq.den hp.den hq.num ((Lib.tabBelow_of_tabIs htab).on hW).here
  obtain ⟨u, v, e0, hr⟩ : ∃ u v e0, prodR (p.num * q.den) ((p.den : Int) * q.num) = trip u v e0 := by unfold prodR; (repeat' split) <;> exact ⟨_, _, _, rfl⟩
  rw [hr] at C1 ⊢
  unfold ratS fracV trip at *
  have hne := eq48 (str (Lib.itoa q.num)) (hq.num.ne_zero h0)
  have T0 := tbox_new w 103 (str (Lib.itoa p.num)) (str (Lib.itoa (p.den : Int))) (str (Lib.itoa q.num)) (str (Lib.itoa (q.den : Int)))
  generalize str (Lib.itoa p.num) = a1 at *
  generalize str (Lib.itoa (p.den : Int)) = a2 at *
  generalize str (Lib.itoa q.num) = b1 at *
  generalize str (Lib.itoa (q.den : Int)) = b2 at *
  have K1 := Lib.hid C1; have HT := Lib.hid T0; clear C1 hp hq htab hr T0 h0
  go_enter Tryz.func208, Tryz.ntmps208
  go_wp2_with (go_at_call 107; refine (K1.out _ HT.out.below).mono ?_; rintro e w1 ⟨rfl, hb1⟩; refine Hid.out ?_)
  have HB := Lib.hid (Below.chain HT.out.below hb1); clear hb1
  refine Lib.hid ?_
  go_wp2
  refine bodyPost_ret (by simp [results, Tryz.results208, go_sem]; rfl) rfl ?_
  exact ⟨rfl, HB.out⟩
set_option maxHeartbeats 1000000 in
theorem oper4_zero (p : Rat) (w : World) :
    Calls Tryz.prog 208 #[ratS p, ratS 0] w (Bret (trip ⟨#[]⟩ ⟨#[]⟩ 19) w) := by
  have e1 : str (Lib.itoa (0 : Rat).num) = ⟨#[48]⟩ := lit_str str_zero
  unfold ratS fracV trip
  rw [e1]
  generalize str (Lib.itoa p.num) = a1 at *
  generalize str (Lib.itoa (p.den : Int)) = a2 at *
  generalize str (Lib.itoa ((0 : Rat).den : Int)) = b2 at *
  go_enter Tryz.func208, Tryz.ntmps208
  go_wp2
  refine bodyPost_ret (by simp [results, Tryz.results208, go_sem]; rfl) rfl ?_
  exact ⟨rfl, by go_grown⟩
end Go.Proofs.YtbadibbdoljjhaaGreatDoor
