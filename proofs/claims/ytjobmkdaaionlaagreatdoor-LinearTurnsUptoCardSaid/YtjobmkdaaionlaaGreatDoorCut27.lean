import Derived.Test.YtjobmkdaaionlaaGreatDoorCut26

set_option linter.unusedVariables false
/-
  rational: combine, the operations.
-/
namespace Go.Proofs.YtjobmkdaaionlaaGreatDoor
open Go Go.Proofs Go.RowKit
structure RatS (q : Rat) : Prop where
  num : Str (str (Lib.itoa q.num)) q.num
  den : Str (str (Lib.itoa (q.den : Int))) (q.den : Int)
def ratS (q : Rat) : Value := fracV (str (Lib.itoa q.num)) (str (Lib.itoa (q.den : Int)))
def trip (u v : ByteArray) (e : Nat) : Value := .tuple #[.string u, .string v, .int .i64 (e : Nat)]
def combV (l m r d : Int) : Value :=
  if Fits l ∧ Fits m then (if Fits r then (if Fits d then trip (str (Lib.itoa r)) (str (Lib.itoa d)) 0 else trip (str (Lib.itoa r)) ⟨#[]⟩ 10) else trip ⟨#[]⟩ ⟨#[]⟩ 10) else trip ⟨#[]⟩ ⟨#[]⟩ 10
set_option maxHeartbeats 4000000 in
theorem combineAdd (p q : Rat) (w : World) (hp : RatS p) (hq : RatS q) (htab : Lib.TabIs Tryz.prog w "internal/strconv.uint64pow10" .u64 Lib.pow10Tab) :
    Calls Tryz.prog 127 #[.func (.func 128) #[] #[], ratS p, ratS q] w (Bret (combV (p.num * q.den) (q.num * p.den) (p.num * q.den + q.num * p.den) ((p.den : Int) * q.den)) w) := by
  have hT := Lib.tabBelow_of_tabIs htab
  have C1 : ∀ W : World, Below w.heap.size w W → Calls Tryz.prog 132 #[.string (str (Lib.itoa p.num)), .string (str (Lib.itoa (q.den : Int))), .string (str (Lib.itoa q.num)), .string (str (Lib.itoa (p.den : Int)))] W (Bret (prodR (p.num * q.den) (q.num * p.den)) W) := fun W hW => products_rat _ _ _ _ _ _ _ _ W hp.num hq.den hq.num hp.den (hT.on hW).here
  have C3 : ∀ W : World, Below w.heap.size w W → Calls Tryz.prog 108 #[.string (str (Lib.itoa (p.den : Int))), .string (str (Lib.itoa (q.den : Int)))] W (Bret (resV ((p.den : Int) * q.den)) W) := fun W hW => mulZ _ _ _ _ W hp.den hq.den (hT.on hW).here
  have C2 : Fits (p.num * q.den) → Fits (q.num * p.den) → ∀ W : World, Below w.heap.size w W → Calls Tryz.prog 128 #[.string (str (Lib.itoa (p.num * q.den))), .string (str (Lib.itoa (q.num * p.den)))] W (Bret (resV (p.num * q.den + q.num * p.den)) W) := fun f1 f2 W hW => addZ _ _ _ _ W (str_itoa (Nat.le_of_not_lt f1)) (str_itoa (Nat.le_of_not_lt f2)) (hT.on hW).here
  unfold ratS fracV
  generalize p.num * q.den + q.num * p.den = r at *
  generalize p.num * q.den = l at *
  generalize q.num * p.den = m at *
  generalize (p.den : Int) * q.den = d at *
  have T0 := tbox_new w 123 (str (Lib.itoa p.num)) (str (Lib.itoa (p.den : Int))) (str (Lib.itoa q.num)) (str (Lib.itoa (q.den : Int)))
  generalize str (Lib.itoa p.num) = a1 at *
  generalize str (Lib.itoa (p.den : Int)) = a2 at *
  generalize str (Lib.itoa q.num) = b1 at *
  generalize str (Lib.itoa (q.den : Int)) = b2 at *
  clear hp hq hT htab
  unfold combV trip
  unfold prodR at C1
  by_cases h1 : Fits l ∧ Fits m
  · rw [if_pos h1] at C1 ⊢
    replace C2 := C2 h1.1 h1.2
    generalize str (Lib.itoa l) = sl at *
    generalize str (Lib.itoa m) = sm at *
    by_cases h2 : Fits r
    · rw [if_pos h2]
      rw [resV_fits h2] at C2
      generalize str (Lib.itoa r) = sr at *
      by_cases h3 : Fits d
      · rw [if_pos h3]
        rw [resV_fits h3] at C3
        generalize str (Lib.itoa d) = sd at *
        have K1 := Lib.hid C1; have K2 := Lib.hid C2; have K3 := Lib.hid C3; clear C1 C2 C3 h1 h2 h3
        go_enter Tryz.func127, Tryz.ntmps127
        go_wp2_with (go_at_call 132; refine (K1.out _ T0.below).mono ?_; rintro e w1 ⟨rfl, hb1⟩; refine Hid.out ?_)
        have T1 := T0.mono hb1
        clear T0 hb1
        refine Lib.hid ?_
        go_wp2_with (go_at_call 128; refine (K2.out _ T1.below).mono ?_; rintro e w2 ⟨rfl, hb2⟩; refine Hid.out ?_)
        have T2 := T1.mono hb2
        clear T1 hb2
        have a0 := T2.a0; have a1' := T2.a1; have c0 := T2.c0; have c1 := T2.c1; have sz := T2.sz
        have H2 := Lib.hid T2
        refine Lib.hid ?_
        go_wp2_with (go_at_call 108; refine (K3.out _ H2.out.below).mono ?_; rintro e w3 ⟨rfl, hb3⟩; refine Hid.out ?_)
        have hB := Below.chain H2.out.below hb3
        clear T2 hb3 H2 a0 a1' c0 c1 sz
        have HB := Lib.hid hB; clear hB
        refine Lib.hid ?_
        go_wp2
        refine bodyPost_ret (by simp [results, Tryz.results127, go_sem]; rfl) rfl ?_
        exact ⟨rfl, HB.out⟩
      · rw [if_neg h3]
        rw [resV_long (Nat.lt_of_not_le (fun h => h3 (Nat.not_lt_of_le h)))] at C3
        have K1 := Lib.hid C1; have K2 := Lib.hid C2; have K3 := Lib.hid C3; clear C1 C2 C3 h1 h2 h3
        go_enter Tryz.func127, Tryz.ntmps127
        go_wp2_with (go_at_call 132; refine (K1.out _ T0.below).mono ?_; rintro e w1 ⟨rfl, hb1⟩; refine Hid.out ?_)
        have T1 := T0.mono hb1
        clear T0 hb1
        refine Lib.hid ?_
        go_wp2_with (go_at_call 128; refine (K2.out _ T1.below).mono ?_; rintro e w2 ⟨rfl, hb2⟩; refine Hid.out ?_)
        have T2 := T1.mono hb2
        clear T1 hb2
        have a0 := T2.a0; have a1' := T2.a1; have c0 := T2.c0; have c1 := T2.c1; have sz := T2.sz
        have H2 := Lib.hid T2
        refine Lib.hid ?_
        go_wp2_with (go_at_call 108; refine (K3.out _ H2.out.below).mono ?_; rintro e w3 ⟨rfl, hb3⟩; refine Hid.out ?_)
        have hB := Below.chain H2.out.below hb3
        clear T2 hb3 H2 a0 a1' c0 c1 sz
        have HB := Lib.hid hB; clear hB
        refine Lib.hid ?_
        go_wp2
        refine bodyPost_ret (by simp [results, Tryz.results127, go_sem]; rfl) rfl ?_
        exact ⟨rfl, HB.out⟩
    · rw [if_neg h2]
      rw [resV_long (Nat.lt_of_not_le (fun h => h2 (Nat.not_lt_of_le h)))] at C2
      have K1 := Lib.hid C1; have K2 := Lib.hid C2; clear C1 C2 C3 h1 h2
      go_enter Tryz.func127, Tryz.ntmps127
      go_wp2_with (go_at_call 132; refine (K1.out _ T0.below).mono ?_; rintro e w1 ⟨rfl, hb1⟩; refine Hid.out ?_)
      have T1 := T0.mono hb1
      clear T0 hb1
      refine Lib.hid ?_
      go_wp2_with (go_at_call 128; refine (K2.out _ T1.below).mono ?_; rintro e w2 ⟨rfl, hb2⟩; refine Hid.out ?_)
      have T2 := T1.mono hb2
      clear T1 hb2
      have hB := T2.below
      clear T2
      have HB := Lib.hid hB; clear hB
      refine Lib.hid ?_
      go_wp2
      refine bodyPost_ret (by simp [results, Tryz.results127, go_sem]; rfl) rfl ?_
      exact ⟨rfl, HB.out⟩
  · rw [if_neg h1] at C1 ⊢
    have K1 := Lib.hid C1; clear C1 C2 C3 h1
    go_enter Tryz.func127, Tryz.ntmps127
    go_wp2_with (go_at_call 132; refine (K1.out _ T0.below).mono ?_; rintro e w1 ⟨rfl, hb1⟩; refine Hid.out ?_)
    have T1 := T0.mono hb1
    clear T0 hb1
    have hB := T1.below
    clear T1
    have HB := Lib.hid hB; clear hB
    refine Lib.hid ?_
    go_wp2
    refine bodyPost_ret (by simp [results, Tryz.results127, go_sem]; rfl) rfl ?_
    exact ⟨rfl, HB.out⟩
set_option maxHeartbeats 1000000 in
theorem oper1 (p q : Rat) (w : World) (hp : RatS p) (hq : RatS q) (htab : Lib.TabIs Tryz.prog w "internal/strconv.uint64pow10" .u64 Lib.pow10Tab) :
    Calls Tryz.prog 126 #[ratS p, ratS q] w (Bret (combV (p.num * q.den) (q.num * p.den) (p.num * q.den + q.num * p.den) ((p.den : Int) * q.den)) w) := by
  have C1 : ∀ W : World, Below w.heap.size w W → Calls Tryz.prog 127 #[.func (.func 128) #[] #[], ratS p, ratS q] W (Bret (combV (p.num * q.den) (q.num * p.den) (p.num * q.den + q.num * p.den) ((p.den : Int) * q.den)) W) := fun W hW => combineAdd p q W hp hq ((Lib.tabBelow_of_tabIs htab).on hW).here
  obtain ⟨u, v, e0, hr⟩ : ∃ u v e0, combV (p.num * q.den) (q.num * p.den) (p.num * q.den + q.num * p.den) ((p.den : Int) * q.den) = trip u v e0 := by unfold combV; (repeat' split) <;> exact ⟨_, _, _, rfl⟩
  rw [hr] at C1 ⊢
  unfold ratS fracV trip at *
  have T0 := tbox_new w 123 (str (Lib.itoa p.num)) (str (Lib.itoa (p.den : Int))) (str (Lib.itoa q.num)) (str (Lib.itoa (q.den : Int)))
  generalize str (Lib.itoa p.num) = a1 at *
  generalize str (Lib.itoa (p.den : Int)) = a2 at *
  generalize str (Lib.itoa q.num) = b1 at *
  generalize str (Lib.itoa (q.den : Int)) = b2 at *
  have K1 := Lib.hid C1; have HT := Lib.hid T0; clear C1 hp hq htab hr T0
  go_enter Tryz.func126, Tryz.ntmps126
  go_wp2_with (go_at_call 127; refine (K1.out _ HT.out.below).mono ?_; rintro e w1 ⟨rfl, hb1⟩; refine Hid.out ?_)
  have HB := Lib.hid (Below.chain HT.out.below hb1); clear hb1
  refine Lib.hid ?_
  go_wp2
  refine bodyPost_ret (by simp [results, Tryz.results126, go_sem]; rfl) rfl ?_
  exact ⟨rfl, HB.out⟩
set_option maxHeartbeats 1000000 in
theorem oper3 (p q : Rat) (w : World) (hp : RatS p) (hq : RatS q) (htab : Lib.TabIs Tryz.prog w "internal/strconv.uint64pow10" .u64 Lib.pow10Tab) :
    Calls Tryz.prog 131 #[ratS p, ratS q] w (Bret (prodR (p.num * q.num) ((p.den : Int) * q.den)) w) := by
  have C1 : ∀ W : World, Below w.heap.size w W → Calls Tryz.prog 132 #[.string (str (Lib.itoa p.num)), .string (str (Lib.itoa q.num)), .string (str (Lib.itoa (p.den : Int))), .string (str (Lib.itoa (q.den : Int)))] W (Bret (prodR (p.num * q.num) ((p.den : Int) * q.den)) W) := fun W hW => products_rat _ _ _ _ _ _ _ _ W hp.num hq.num hp.den hq.den ((Lib.tabBelow_of_tabIs htab).on hW).here
  obtain ⟨u, v, e0, hr⟩ : ∃ u v e0, prodR (p.num * q.num) ((p.den : Int) * q.den) = trip u v e0 := by unfold prodR; (repeat' split) <;> exact ⟨_, _, _, rfl⟩
  rw [hr] at C1 ⊢
  unfold ratS fracV trip at *
  have T0 := tbox_new w 123 (str (Lib.itoa p.num)) (str (Lib.itoa (p.den : Int))) (str (Lib.itoa q.num)) (str (Lib.itoa (q.den : Int)))
  generalize str (Lib.itoa p.num) = a1 at *
  generalize str (Lib.itoa (p.den : Int)) = a2 at *
  generalize str (Lib.itoa q.num) = b1 at *
  generalize str (Lib.itoa (q.den : Int)) = b2 at *
  have K1 := Lib.hid C1; have HT := Lib.hid T0; clear C1 hp hq htab hr T0
  go_enter Tryz.func131, Tryz.ntmps131
  go_wp2_with (go_at_call 132; refine (K1.out _ HT.out.below).mono ?_; rintro e w1 ⟨rfl, hb1⟩; refine Hid.out ?_)
  have HB := Lib.hid (Below.chain HT.out.below hb1); clear hb1
  refine Lib.hid ?_
  go_wp2
  refine bodyPost_ret (by simp [results, Tryz.results131, go_sem]; rfl) rfl ?_
  exact ⟨rfl, HB.out⟩
set_option maxHeartbeats 2000000 in
theorem comp1_0 (s t a1 a2 b1 b2 u v r : ByteArray) (w : World)
    (C1 : ∀ W : World, Below w.heap.size w W → Calls Tryz.prog 98 #[.string s, .string t] W (Bret (.tuple #[.agg #[.string a1, .string a2], .agg #[.string b1, .string b2], .int .i64 0]) W))
    (C3 : ∀ W : World, Below w.heap.size w W → Calls Tryz.prog 126 #[.agg #[.string a1, .string a2], .agg #[.string b1, .string b2]] W (Bret (.tuple #[.string u, .string v, .int .i64 0]) W))
    (C4 : ∀ W : World, Below w.heap.size w W → Calls Tryz.prog 100 #[.string u, .string v] W (Bret (.tuple #[.string r, .int .i64 0]) W)) :
    Calls Tryz.prog 75 #[.int .u8 43, .string s, .string t] w (Bret (.tuple #[.string r, .int .i64 0]) w) := by
  have C2 : ∀ W : World, Calls Tryz.prog 99 #[.int .u8 43] W (Bret (.func (.func 126) #[] #[]) W) := fun W => operationOf_runs W 43 _ (.inl ⟨rfl, rfl⟩)
  have K1 := Lib.hid C1; have K2 := Lib.hid C2; have K3 := Lib.hid C3; have K4 := Lib.hid C4
  clear C1 C2 C3 C4
  go_enter Tryz.func75, Tryz.ntmps75
  go_wp2_with (go_at_call 98; refine (K1.out _ (Below.refl _ _)).mono ?_; rintro e w1 ⟨rfl, hb1⟩; refine Hid.out ?_)
  have T7 := tbox_new w1 123 a1 a2 b1 b2
  have HB1 := Lib.hid hb1; clear hb1
  refine Lib.hid ?_
  go_wp2_with fail
  generalize ((w1.alloc (Obj.cells #[Value.string a1, Value.string a2] 123)).alloc (Obj.cells #[Value.string b1, Value.string b2] 123)) = W7 at *
  generalize hp : w1.heap.size = p at *
  have K : ∀ W : World, Below W7.heap.size W7 W → W.cell? ⟨p, 0, none⟩ = some (.string a1) ∧ W.cell? ⟨p, 1, none⟩ = some (.string a2) ∧ W.cell? ⟨p + 1, 0, none⟩ = some (.string b1) ∧ W.cell? ⟨p + 1, 1, none⟩ = some (.string b2) := fun W hW => ⟨(T7.mono hW).a0, (T7.mono hW).a1, (T7.mono hW).c0, (T7.mono hW).c1⟩
  have HW : ∀ W : World, Below W7.heap.size W7 W → Below w.heap.size w W := fun W hW => Below.chain HB1.out (T7.mono hW).below
  have KK := Lib.hid K; have HHW := Lib.hid HW
  have hD : Below W7.heap.size W7 W7.drew := (Below.refl _ _).drew
  clear K HW T7 HB1 hp
  go_region_held3 (fun w' => w'.cell? ⟨p, 0, none⟩ = some (.string a1) ∧ w'.cell? ⟨p, 1, none⟩ = some (.string a2) ∧ w'.cell? ⟨p + 1, 0, none⟩ = some (.string b1) ∧ w'.cell? ⟨p + 1, 1, none⟩ = some (.string b2)) (first | (with_reducible exact KK.out _ hD) | (with_reducible exact KK.out _ hV1) | (with_reducible exact KK.out _ hV2) | fail) (first
    | (go_at_call 99; refine (K2.out _).mono ?_; rintro e w8 ⟨rfl, hb8⟩; have hV1 := Below.chain hD hb8)
    | (go_at_call 126; refine (K3.out _ (HHW.out _ hV1)).mono ?_; rintro e w9 ⟨rfl, hb9⟩; have hV2 := Below.chain hV1 hb9))
  all_goals
    have hB := HHW.out _ hV2
    go_wp2_with (go_at_call 100; refine (K4.out _ hB).mono ?_; rintro e w10 ⟨rfl, hb10⟩; refine Hid.out ?_)
    have hB2 := Below.chain hB hb10
    have HB2 := Lib.hid hB2; clear hB2 hb10 hB
    refine Lib.hid ?_
    go_wp2
    refine bodyPost_ret (by simp [results, Tryz.results75, go_sem]; rfl) rfl ?_
    exact ⟨rfl, HB2.out⟩
set_option maxHeartbeats 2000000 in
theorem comp1_10 (s t a1 a2 b1 b2 u v : ByteArray) (w : World)
    (C1 : ∀ W : World, Below w.heap.size w W → Calls Tryz.prog 98 #[.string s, .string t] W (Bret (.tuple #[.agg #[.string a1, .string a2], .agg #[.string b1, .string b2], .int .i64 0]) W))
    (C3 : ∀ W : World, Below w.heap.size w W → Calls Tryz.prog 126 #[.agg #[.string a1, .string a2], .agg #[.string b1, .string b2]] W (Bret (.tuple #[.string u, .string v, .int .i64 10]) W)) :
    Calls Tryz.prog 75 #[.int .u8 43, .string s, .string t] w (Bret (.tuple #[.string ⟨#[]⟩, .int .i64 10]) w) := by
  have C2 : ∀ W : World, Calls Tryz.prog 99 #[.int .u8 43] W (Bret (.func (.func 126) #[] #[]) W) := fun W => operationOf_runs W 43 _ (.inl ⟨rfl, rfl⟩)
  have K1 := Lib.hid C1; have K2 := Lib.hid C2; have K3 := Lib.hid C3
  clear C1 C2 C3
  go_enter Tryz.func75, Tryz.ntmps75
  go_wp2_with (go_at_call 98; refine (K1.out _ (Below.refl _ _)).mono ?_; rintro e w1 ⟨rfl, hb1⟩; refine Hid.out ?_)
  have T7 := tbox_new w1 123 a1 a2 b1 b2
  have HB1 := Lib.hid hb1; clear hb1
  refine Lib.hid ?_
  go_wp2_with fail
  generalize ((w1.alloc (Obj.cells #[Value.string a1, Value.string a2] 123)).alloc (Obj.cells #[Value.string b1, Value.string b2] 123)) = W7 at *
  generalize hp : w1.heap.size = p at *
  have K : ∀ W : World, Below W7.heap.size W7 W → W.cell? ⟨p, 0, none⟩ = some (.string a1) ∧ W.cell? ⟨p, 1, none⟩ = some (.string a2) ∧ W.cell? ⟨p + 1, 0, none⟩ = some (.string b1) ∧ W.cell? ⟨p + 1, 1, none⟩ = some (.string b2) := fun W hW => ⟨(T7.mono hW).a0, (T7.mono hW).a1, (T7.mono hW).c0, (T7.mono hW).c1⟩
  have HW : ∀ W : World, Below W7.heap.size W7 W → Below w.heap.size w W := fun W hW => Below.chain HB1.out (T7.mono hW).below
  have KK := Lib.hid K; have HHW := Lib.hid HW
  have hD : Below W7.heap.size W7 W7.drew := (Below.refl _ _).drew
  clear K HW T7 HB1 hp
  go_region_held3 (fun w' => w'.cell? ⟨p, 0, none⟩ = some (.string a1) ∧ w'.cell? ⟨p, 1, none⟩ = some (.string a2) ∧ w'.cell? ⟨p + 1, 0, none⟩ = some (.string b1) ∧ w'.cell? ⟨p + 1, 1, none⟩ = some (.string b2)) (first | (with_reducible exact KK.out _ hD) | (with_reducible exact KK.out _ hV1) | (with_reducible exact KK.out _ hV2) | fail) (first
    | (go_at_call 99; refine (K2.out _).mono ?_; rintro e w8 ⟨rfl, hb8⟩; have hV1 := Below.chain hD hb8)
    | (go_at_call 126; refine (K3.out _ (HHW.out _ hV1)).mono ?_; rintro e w9 ⟨rfl, hb9⟩; have hV2 := Below.chain hV1 hb9))
  all_goals
    have hB := HHW.out _ hV2
    have HB2 := Lib.hid hB; clear hB
    go_wp2
    refine bodyPost_ret (by simp [results, Tryz.results75, go_sem]; rfl) rfl ?_
    exact ⟨rfl, HB2.out⟩
set_option maxHeartbeats 2000000 in
theorem comp3_0 (s t a1 a2 b1 b2 u v r : ByteArray) (w : World)
    (C1 : ∀ W : World, Below w.heap.size w W → Calls Tryz.prog 98 #[.string s, .string t] W (Bret (.tuple #[.agg #[.string a1, .string a2], .agg #[.string b1, .string b2], .int .i64 0]) W))
    (C3 : ∀ W : World, Below w.heap.size w W → Calls Tryz.prog 131 #[.agg #[.string a1, .string a2], .agg #[.string b1, .string b2]] W (Bret (.tuple #[.string u, .string v, .int .i64 0]) W))
    (C4 : ∀ W : World, Below w.heap.size w W → Calls Tryz.prog 100 #[.string u, .string v] W (Bret (.tuple #[.string r, .int .i64 0]) W)) :
    Calls Tryz.prog 75 #[.int .u8 42, .string s, .string t] w (Bret (.tuple #[.string r, .int .i64 0]) w) := by
  have C2 : ∀ W : World, Calls Tryz.prog 99 #[.int .u8 42] W (Bret (.func (.func 131) #[] #[]) W) := fun W => operationOf_runs W 42 _ (.inr (.inr (.inl ⟨rfl, rfl⟩)))
  have K1 := Lib.hid C1; have K2 := Lib.hid C2; have K3 := Lib.hid C3; have K4 := Lib.hid C4
  clear C1 C2 C3 C4
  go_enter Tryz.func75, Tryz.ntmps75
  go_wp2_with (go_at_call 98; refine (K1.out _ (Below.refl _ _)).mono ?_; rintro e w1 ⟨rfl, hb1⟩; refine Hid.out ?_)
  have T7 := tbox_new w1 123 a1 a2 b1 b2
  have HB1 := Lib.hid hb1; clear hb1
  refine Lib.hid ?_
  go_wp2_with fail
  generalize ((w1.alloc (Obj.cells #[Value.string a1, Value.string a2] 123)).alloc (Obj.cells #[Value.string b1, Value.string b2] 123)) = W7 at *
  generalize hp : w1.heap.size = p at *
  have K : ∀ W : World, Below W7.heap.size W7 W → W.cell? ⟨p, 0, none⟩ = some (.string a1) ∧ W.cell? ⟨p, 1, none⟩ = some (.string a2) ∧ W.cell? ⟨p + 1, 0, none⟩ = some (.string b1) ∧ W.cell? ⟨p + 1, 1, none⟩ = some (.string b2) := fun W hW => ⟨(T7.mono hW).a0, (T7.mono hW).a1, (T7.mono hW).c0, (T7.mono hW).c1⟩
  have HW : ∀ W : World, Below W7.heap.size W7 W → Below w.heap.size w W := fun W hW => Below.chain HB1.out (T7.mono hW).below
  have KK := Lib.hid K; have HHW := Lib.hid HW
  have hD : Below W7.heap.size W7 W7.drew := (Below.refl _ _).drew
  clear K HW T7 HB1 hp
  go_region_held3 (fun w' => w'.cell? ⟨p, 0, none⟩ = some (.string a1) ∧ w'.cell? ⟨p, 1, none⟩ = some (.string a2) ∧ w'.cell? ⟨p + 1, 0, none⟩ = some (.string b1) ∧ w'.cell? ⟨p + 1, 1, none⟩ = some (.string b2)) (first | (with_reducible exact KK.out _ hD) | (with_reducible exact KK.out _ hV1) | (with_reducible exact KK.out _ hV2) | fail) (first
    | (go_at_call 99; refine (K2.out _).mono ?_; rintro e w8 ⟨rfl, hb8⟩; have hV1 := Below.chain hD hb8)
    | (go_at_call 131; refine (K3.out _ (HHW.out _ hV1)).mono ?_; rintro e w9 ⟨rfl, hb9⟩; have hV2 := Below.chain hV1 hb9))
  all_goals
    have hB := HHW.out _ hV2
    go_wp2_with (go_at_call 100; refine (K4.out _ hB).mono ?_; rintro e w10 ⟨rfl, hb10⟩; refine Hid.out ?_)
    have hB2 := Below.chain hB hb10
    have HB2 := Lib.hid hB2; clear hB2 hb10 hB
    refine Lib.hid ?_
    go_wp2
    refine bodyPost_ret (by simp [results, Tryz.results75, go_sem]; rfl) rfl ?_
    exact ⟨rfl, HB2.out⟩
set_option maxHeartbeats 2000000 in
theorem comp3_10 (s t a1 a2 b1 b2 u v : ByteArray) (w : World)
    (C1 : ∀ W : World, Below w.heap.size w W → Calls Tryz.prog 98 #[.string s, .string t] W (Bret (.tuple #[.agg #[.string a1, .string a2], .agg #[.string b1, .string b2], .int .i64 0]) W))
    (C3 : ∀ W : World, Below w.heap.size w W → Calls Tryz.prog 131 #[.agg #[.string a1, .string a2], .agg #[.string b1, .string b2]] W (Bret (.tuple #[.string u, .string v, .int .i64 10]) W)) :
    Calls Tryz.prog 75 #[.int .u8 42, .string s, .string t] w (Bret (.tuple #[.string ⟨#[]⟩, .int .i64 10]) w) := by
  have C2 : ∀ W : World, Calls Tryz.prog 99 #[.int .u8 42] W (Bret (.func (.func 131) #[] #[]) W) := fun W => operationOf_runs W 42 _ (.inr (.inr (.inl ⟨rfl, rfl⟩)))
  have K1 := Lib.hid C1; have K2 := Lib.hid C2; have K3 := Lib.hid C3
  clear C1 C2 C3
  go_enter Tryz.func75, Tryz.ntmps75
  go_wp2_with (go_at_call 98; refine (K1.out _ (Below.refl _ _)).mono ?_; rintro e w1 ⟨rfl, hb1⟩; refine Hid.out ?_)
  have T7 := tbox_new w1 123 a1 a2 b1 b2
  have HB1 := Lib.hid hb1; clear hb1
  refine Lib.hid ?_
  go_wp2_with fail
  generalize ((w1.alloc (Obj.cells #[Value.string a1, Value.string a2] 123)).alloc (Obj.cells #[Value.string b1, Value.string b2] 123)) = W7 at *
  generalize hp : w1.heap.size = p at *
  have K : ∀ W : World, Below W7.heap.size W7 W → W.cell? ⟨p, 0, none⟩ = some (.string a1) ∧ W.cell? ⟨p, 1, none⟩ = some (.string a2) ∧ W.cell? ⟨p + 1, 0, none⟩ = some (.string b1) ∧ W.cell? ⟨p + 1, 1, none⟩ = some (.string b2) := fun W hW => ⟨(T7.mono hW).a0, (T7.mono hW).a1, (T7.mono hW).c0, (T7.mono hW).c1⟩
  have HW : ∀ W : World, Below W7.heap.size W7 W → Below w.heap.size w W := fun W hW => Below.chain HB1.out (T7.mono hW).below
  have KK := Lib.hid K; have HHW := Lib.hid HW
  have hD : Below W7.heap.size W7 W7.drew := (Below.refl _ _).drew
  clear K HW T7 HB1 hp
  go_region_held3 (fun w' => w'.cell? ⟨p, 0, none⟩ = some (.string a1) ∧ w'.cell? ⟨p, 1, none⟩ = some (.string a2) ∧ w'.cell? ⟨p + 1, 0, none⟩ = some (.string b1) ∧ w'.cell? ⟨p + 1, 1, none⟩ = some (.string b2)) (first | (with_reducible exact KK.out _ hD) | (with_reducible exact KK.out _ hV1) | (with_reducible exact KK.out _ hV2) | fail) (first
    | (go_at_call 99; refine (K2.out _).mono ?_; rintro e w8 ⟨rfl, hb8⟩; have hV1 := Below.chain hD hb8)
    | (go_at_call 131; refine (K3.out _ (HHW.out _ hV1)).mono ?_; rintro e w9 ⟨rfl, hb9⟩; have hV2 := Below.chain hV1 hb9))
  all_goals
    have hB := HHW.out _ hV2
    have HB2 := Lib.hid hB; clear hB
    go_wp2
    refine bodyPost_ret (by simp [results, Tryz.results75, go_sem]; rfl) rfl ?_
    exact ⟨rfl, HB2.out⟩
set_option maxHeartbeats 1000000 in
theorem comp_bad3 (k : Int) (s t u v x y : ByteArray) (w : World)
    (C1 : ∀ W : World, Below w.heap.size w W → Calls Tryz.prog 98 #[.string s, .string t] W (Bret (.tuple #[.agg #[.string u, .string v], .agg #[.string x, .string y], .int .i64 3]) W)) :
    Calls Tryz.prog 75 #[.int .u8 k, .string s, .string t] w (Bret (.tuple #[.string ⟨#[]⟩, .int .i64 3]) w) := by
  have K1 := Lib.hid C1; clear C1
  go_enter Tryz.func75, Tryz.ntmps75
  go_wp2_with (go_at_call 98; refine (K1.out _ (Below.refl _ _)).mono ?_; rintro e w1 ⟨rfl, hb1⟩; refine Hid.out ?_)
  have B2 : Below w.heap.size w ((w1.alloc (Obj.cells #[Value.string u, Value.string v] 123)).alloc (Obj.cells #[Value.string x, Value.string y] 123)) := Below.chain hb1 (by go_grown)
  have HB2 := Lib.hid B2; clear B2 hb1
  refine Lib.hid ?_
  go_wp2
  refine bodyPost_ret (by simp [results, Tryz.results75, go_sem]; rfl) rfl ?_
  exact ⟨rfl, HB2.out⟩
set_option maxHeartbeats 1000000 in
theorem comp_bad10 (k : Int) (s t u v x y : ByteArray) (w : World)
    (C1 : ∀ W : World, Below w.heap.size w W → Calls Tryz.prog 98 #[.string s, .string t] W (Bret (.tuple #[.agg #[.string u, .string v], .agg #[.string x, .string y], .int .i64 10]) W)) :
    Calls Tryz.prog 75 #[.int .u8 k, .string s, .string t] w (Bret (.tuple #[.string ⟨#[]⟩, .int .i64 10]) w) := by
  have K1 := Lib.hid C1; clear C1
  go_enter Tryz.func75, Tryz.ntmps75
  go_wp2_with (go_at_call 98; refine (K1.out _ (Below.refl _ _)).mono ?_; rintro e w1 ⟨rfl, hb1⟩; refine Hid.out ?_)
  have B2 : Below w.heap.size w ((w1.alloc (Obj.cells #[Value.string u, Value.string v] 123)).alloc (Obj.cells #[Value.string x, Value.string y] 123)) := Below.chain hb1 (by go_grown)
  have HB2 := Lib.hid B2; clear B2 hb1
  refine Lib.hid ?_
  go_wp2
  refine bodyPost_ret (by simp [results, Tryz.results75, go_sem]; rfl) rfl ?_
  exact ⟨rfl, HB2.out⟩
structure RStr (s : ByteArray) (q : Rat) : Prop where
  text : bytes s = ratL q
  rs : RatS q
theorem str_of_canon {l : List UInt8} (h : errOf l = 0) : Str (str l) (valZ l) := by
  have := str_of_err (s := str l) (by rwa [bytes_str])
  rwa [bytes_str] at this
theorem rerr_zero {l : List UInt8} (h : rerr l = 0) : ratOk l = true ∧ errOf (topL l) = 0 ∧ errOf (botL l) = 0 := by
  unfold rerr at h
  split at h
  · next h1 =>
    split at h
    · next h2 => exact ⟨h1, h2.1, h2.2⟩
    · omega
  · omega
theorem rstr_of_rerr {s : ByteArray} (h : rerr (bytes s) = 0) : RStr s (ratV (bytes s)) := by
  obtain ⟨h1, h2, h3⟩ := rerr_zero h
  obtain ⟨e1, e2⟩ := ratV_parts h1
  have q1 := str_of_canon h2
  have q2 := str_of_canon h3
  refine ⟨ratL_ratV h1, ?_, ?_⟩
  · rw [e1]; exact str_itoa q1.len
  · rw [e2]; exact str_itoa q2.len
theorem RStr.rerr {s : ByteArray} {q : Rat} (h : RStr s q) : rerr (bytes s) = 0 := by
  rw [h.text]; exact rerr_rat h.rs.num.len (by have := h.rs.den.len; rwa [Int.natAbs_natCast] at this)
theorem RStr.val {s : ByteArray} {q : Rat} (h : RStr s q) : ratV (bytes s) = q := by rw [h.text]; exact ratV_rat q
theorem RStr.lit {s : ByteArray} {q : Rat} (h : RStr s q) : str (ratL q) = s := by rw [← h.text, str_bytes]
theorem RStr.of {q : Rat} (h : RatS q) : RStr (str (ratL q)) q := ⟨bytes_str _, h⟩
theorem RStr.inj {s : ByteArray} {p q : Rat} (h : RStr s p) (k : RStr s q) : p = q := ratL_inj (h.text.symm.trans k.text)
theorem parts_lit {l : List UInt8} (h : Go.Proofs.YtjobmkdaaionlaaGreatDoor.rerr l = 0) : fracV (str (topL l)) (str (botL l)) = ratS (ratV l) := by
  obtain ⟨h1, h2, h3⟩ := rerr_zero h
  obtain ⟨e1, e2⟩ := ratV_parts h1
  unfold ratS
  rw [e1, e2, ← itoa_valZ (ratOk_spec h1).1, ← itoa_valZ (ratOk_spec h1).2.1]
theorem bothR_ok {a b : List UInt8} (h : rerrBoth a b = 0) : bothR a b = .tuple #[ratS (ratV a), ratS (ratV b), .int .i64 0] := by
  obtain ⟨h1, h2⟩ := rerrBoth_zero h
  unfold bothR
  rw [if_pos h, parts_lit h1, parts_lit h2]
theorem bothR_bad {a b : List UInt8} (h : rerrBoth a b ≠ 0) : bothR a b = .tuple #[noFrac, noFrac, .int .i64 (rerrBoth a b : Nat)] := by unfold bothR; rw [if_neg h]
theorem parseR_ok {l : List UInt8} (h : Go.Proofs.YtjobmkdaaionlaaGreatDoor.rerr l = 0) : parseR l = .tuple #[ratS (ratV l), .int .i64 0] := by unfold parseR; rw [if_pos h, parts_lit h]
def ratR2 (f : Rat → Rat → Value) (a b : List UInt8) : Value := if rerrBoth a b = 0 then f (ratV a) (ratV b) else errV (rerrBoth a b)
def opQ (ok : Bool) (r : Rat) : Value := if ok = true then .tuple #[.string (str (ratL r)), .int .i64 0] else errV 10
def addF (p q : Rat) : Bool := decide (Fits (p.num * q.den)) && decide (Fits (q.num * p.den)) && decide (Fits (p.num * q.den + q.num * p.den)) && decide (Fits ((p.den : Int) * q.den))
def mulF (p q : Rat) : Bool := decide (Fits (p.num * q.num)) && decide (Fits ((p.den : Int) * q.den))
def addQ (p q : Rat) : Value := opQ (addF p q) (p + q)
def mulQ (p q : Rat) : Value := opQ (mulF p q) (p * q)
theorem opQ_parts (ok : Bool) (r : Rat) : ∃ (u : ByteArray) (e : Nat), opQ ok r = .tuple #[.string u, .int .i64 e] := by
  unfold opQ; split
  · exact ⟨_, 0, rfl⟩
  · exact ⟨_, _, rfl⟩
theorem divInt_add (p q : Rat) : Rat.divInt (p.num * q.den + q.num * p.den) ((p.den : Int) * q.den) = p + q := by
  rw [Rat.add_def', ← Int.natCast_mul, Rat.divInt_ofNat]
theorem divInt_mul (p q : Rat) : Rat.divInt (p.num * q.num) ((p.den : Int) * q.den) = p * q := by
  rw [Rat.mul_def', ← Int.natCast_mul, Rat.divInt_ofNat]
theorem den_mul_ne (p q : Rat) : ((p.den : Int) * q.den) ≠ 0 := by
  have h1 := p.den_pos; have h2 := q.den_pos
  exact Int.mul_ne_zero (by omega) (by omega)
theorem fits_str {z : Int} (h : Fits z) : Str (str (Lib.itoa z)) z := str_itoa (Nat.le_of_not_lt h)
theorem comp1_rat (s t : ByteArray) (p q : Rat) (w : World) (hs : RStr s p) (ht : RStr t q) (hls : s.size ≤ 1000000000) (hlt : t.size ≤ 1000000000) (htab : Lib.TabIs Tryz.prog w "internal/strconv.uint64pow10" .u64 Lib.pow10Tab) :
    Calls Tryz.prog 75 #[.int .u8 43, .string s, .string t] w (Bret (opQ (addF p q) (p + q)) w) := by
  have hT := Lib.tabBelow_of_tabIs htab
  have C1 : ∀ W : World, Below w.heap.size w W → Calls Tryz.prog 98 #[.string s, .string t] W (Bret (.tuple #[ratS p, ratS q, .int .i64 0]) W) := fun W hW => by
    have := parseBoth_rat s t W hls hlt (hT.on hW).here
    rwa [bothR_ok (by unfold rerrBoth; rw [hs.rerr, if_pos rfl, ht.rerr]), hs.val, ht.val] at this
  have C3 : ∀ W : World, Below w.heap.size w W → Calls Tryz.prog 126 #[ratS p, ratS q] W (Bret (combV (p.num * q.den) (q.num * p.den) (p.num * q.den + q.num * p.den) ((p.den : Int) * q.den)) W) := fun W hW => oper1 p q W hs.rs ht.rs (hT.on hW).here
  have C4 : Fits (p.num * q.den + q.num * p.den) → Fits ((p.den : Int) * q.den) → ∀ W : World, Below w.heap.size w W → Calls Tryz.prog 100 #[.string (str (Lib.itoa (p.num * q.den + q.num * p.den))), .string (str (Lib.itoa ((p.den : Int) * q.den)))] W (Bret (.tuple #[.string (str (ratL (p + q))), .int .i64 0]) W) := fun f1 f2 W hW => by
    have := of_rat _ _ _ _ W (fits_str f1) (fits_str f2) (den_mul_ne p q) (hT.on hW).here
    rwa [divInt_add p q] at this
  unfold opQ addF
  unfold combV trip at C3
  unfold ratS fracV at C1 C3
  by_cases h1 : Fits (p.num * q.den) ∧ Fits (q.num * p.den)
  · rw [if_pos h1] at C3
    by_cases h2 : Fits (p.num * q.den + q.num * p.den)
    · rw [if_pos h2] at C3
      by_cases h3 : Fits ((p.den : Int) * q.den)
      · rw [if_pos h3] at C3
        rw [if_pos (by simp only [Bool.and_eq_true, decide_eq_true_eq]; exact ⟨⟨h1, h2⟩, h3⟩)]
        exact comp1_0 s t _ _ _ _ _ _ _ w C1 C3 (C4 h2 h3)
      · rw [if_neg h3] at C3
        rw [if_neg (by simp only [Bool.and_eq_true, decide_eq_true_eq]; exact fun h => h3 h.2)]
        exact comp1_10 s t _ _ _ _ _ _ w C1 C3
    · rw [if_neg h2] at C3
      rw [if_neg (by simp only [Bool.and_eq_true, decide_eq_true_eq]; exact fun h => h2 h.1.2)]
      exact comp1_10 s t _ _ _ _ _ _ w C1 C3
  · rw [if_neg h1] at C3
    rw [if_neg (by simp only [Bool.and_eq_true, decide_eq_true_eq]; exact fun h => h1 h.1.1)]
    exact comp1_10 s t _ _ _ _ _ _ w C1 C3
theorem comp3_rat (s t : ByteArray) (p q : Rat) (w : World) (hs : RStr s p) (ht : RStr t q) (hls : s.size ≤ 1000000000) (hlt : t.size ≤ 1000000000) (htab : Lib.TabIs Tryz.prog w "internal/strconv.uint64pow10" .u64 Lib.pow10Tab) :
    Calls Tryz.prog 75 #[.int .u8 42, .string s, .string t] w (Bret (opQ (mulF p q) (p * q)) w) := by
  have hT := Lib.tabBelow_of_tabIs htab
  have C1 : ∀ W : World, Below w.heap.size w W → Calls Tryz.prog 98 #[.string s, .string t] W (Bret (.tuple #[ratS p, ratS q, .int .i64 0]) W) := fun W hW => by
    have := parseBoth_rat s t W hls hlt (hT.on hW).here
    rwa [bothR_ok (by unfold rerrBoth; rw [hs.rerr, if_pos rfl, ht.rerr]), hs.val, ht.val] at this
  have C3 : ∀ W : World, Below w.heap.size w W → Calls Tryz.prog 131 #[ratS p, ratS q] W (Bret (prodR (p.num * q.num) ((p.den : Int) * q.den)) W) := fun W hW => oper3 p q W hs.rs ht.rs (hT.on hW).here
  have C4 : Fits (p.num * q.num) → Fits ((p.den : Int) * q.den) → ∀ W : World, Below w.heap.size w W → Calls Tryz.prog 100 #[.string (str (Lib.itoa (p.num * q.num))), .string (str (Lib.itoa ((p.den : Int) * q.den)))] W (Bret (.tuple #[.string (str (ratL (p * q))), .int .i64 0]) W) := fun f1 f2 W hW => by
    have := of_rat _ _ _ _ W (fits_str f1) (fits_str f2) (den_mul_ne p q) (hT.on hW).here
    rwa [divInt_mul p q] at this
  unfold opQ mulF
  unfold prodR at C3
  unfold ratS fracV at C1 C3
  by_cases h1 : Fits (p.num * q.num) ∧ Fits ((p.den : Int) * q.den)
  · rw [if_pos h1] at C3
    rw [if_pos (by simp only [Bool.and_eq_true, decide_eq_true_eq]; exact h1)]
    exact comp3_0 s t _ _ _ _ _ _ _ w C1 C3 (C4 h1.1 h1.2)
  · rw [if_neg h1] at C3
    rw [if_neg (by simp only [Bool.and_eq_true, decide_eq_true_eq]; exact h1)]
    exact comp3_10 s t _ _ _ _ _ _ w C1 C3
theorem comp_err (k : Int) (s t : ByteArray) (w : World) (hs : s.size ≤ 1000000000) (ht : t.size ≤ 1000000000) (h : rerrBoth (bytes s) (bytes t) ≠ 0) (htab : Lib.TabIs Tryz.prog w "internal/strconv.uint64pow10" .u64 Lib.pow10Tab) :
    Calls Tryz.prog 75 #[.int .u8 k, .string s, .string t] w (Bret (errV (rerrBoth (bytes s) (bytes t))) w) := by
  have C1 : ∀ W : World, Below w.heap.size w W → Calls Tryz.prog 98 #[.string s, .string t] W (Bret (bothR (bytes s) (bytes t)) W) := fun W hW => parseBoth_rat s t W hs ht ((Lib.tabBelow_of_tabIs htab).on hW).here
  rw [bothR_bad h] at C1
  unfold noFrac at C1
  rcases rerrBoth_cases (bytes s) (bytes t) with h1 | h1 | h1
  · exact absurd h1 h
  · rw [h1] at C1 ⊢; exact comp_bad3 k s t _ _ _ _ w C1
  · rw [h1] at C1 ⊢; exact comp_bad10 k s t _ _ _ _ w C1
theorem comp1_any (s t : ByteArray) (w : World) (hs : s.size ≤ 1000000000) (ht : t.size ≤ 1000000000) (htab : Lib.TabIs Tryz.prog w "internal/strconv.uint64pow10" .u64 Lib.pow10Tab) :
    Calls Tryz.prog 75 #[.int .u8 43, .string s, .string t] w (Bret (ratR2 addQ (bytes s) (bytes t)) w) := by
  unfold ratR2
  by_cases h : rerrBoth (bytes s) (bytes t) = 0
  · rw [if_pos h]
    obtain ⟨h1, h2⟩ := rerrBoth_zero h
    exact comp1_rat s t _ _ w (rstr_of_rerr h1) (rstr_of_rerr h2) hs ht htab
  · rw [if_neg h]
    exact comp_err 43 s t w hs ht h htab
theorem ratR2_addQ_parts (a b : List UInt8) : ∃ (u : ByteArray) (e : Nat), ratR2 addQ a b = .tuple #[.string u, .int .i64 e] := by
  unfold ratR2 addQ
  (repeat' split) <;> first | exact opQ_parts _ _ | exact ⟨_, _, rfl⟩
set_option maxHeartbeats 1000000 in
theorem ratAdd (s t : ByteArray) (w : World) (hs : s.size ≤ 1000000000) (ht : t.size ≤ 1000000000) (htab : Lib.TabIs Tryz.prog w "internal/strconv.uint64pow10" .u64 Lib.pow10Tab) :
    Calls Tryz.prog 70 #[.string s, .string t] w (Bret (ratR2 addQ (bytes s) (bytes t)) w) := by
  have C1 := comp1_any s t w hs ht htab
  obtain ⟨u, e, hr⟩ := ratR2_addQ_parts (bytes s) (bytes t)
  rw [hr] at C1 ⊢
  have K1 := Lib.hid (fun (_ : Unit) => C1); clear C1 hr hs ht htab
  go_enter Tryz.func70, Tryz.ntmps70
  go_wp2_with (go_at_call 75; refine (K1.out ()).mono ?_; rintro e w1 ⟨rfl, hb1⟩; refine Hid.out ?_)
  refine Lib.hid ?_
  go_wp2
  refine bodyPost_ret (by simp [results, Tryz.results70, go_sem]; rfl) rfl ?_
  exact ⟨rfl, hb1⟩
theorem comp3_any (s t : ByteArray) (w : World) (hs : s.size ≤ 1000000000) (ht : t.size ≤ 1000000000) (htab : Lib.TabIs Tryz.prog w "internal/strconv.uint64pow10" .u64 Lib.pow10Tab) :
    Calls Tryz.prog 75 #[.int .u8 42, .string s, .string t] w (Bret (ratR2 mulQ (bytes s) (bytes t)) w) := by
  unfold ratR2
  by_cases h : rerrBoth (bytes s) (bytes t) = 0
  · rw [if_pos h]
    obtain ⟨h1, h2⟩ := rerrBoth_zero h
    exact comp3_rat s t _ _ w (rstr_of_rerr h1) (rstr_of_rerr h2) hs ht htab
  · rw [if_neg h]
    exact comp_err 42 s t w hs ht h htab
theorem ratR2_mulQ_parts (a b : List UInt8) : ∃ (u : ByteArray) (e : Nat), ratR2 mulQ a b = .tuple #[.string u, .int .i64 e] := by
  unfold ratR2 mulQ
  (repeat' split) <;> first | exact opQ_parts _ _ | exact ⟨_, _, rfl⟩
set_option maxHeartbeats 1000000 in
theorem ratMul (s t : ByteArray) (w : World) (hs : s.size ≤ 1000000000) (ht : t.size ≤ 1000000000) (htab : Lib.TabIs Tryz.prog w "internal/strconv.uint64pow10" .u64 Lib.pow10Tab) :
    Calls Tryz.prog 40 #[.string s, .string t] w (Bret (ratR2 mulQ (bytes s) (bytes t)) w) := by
  have C1 := comp3_any s t w hs ht htab
  obtain ⟨u, e, hr⟩ := ratR2_mulQ_parts (bytes s) (bytes t)
  rw [hr] at C1 ⊢
  have K1 := Lib.hid (fun (_ : Unit) => C1); clear C1 hr hs ht htab
  go_enter Tryz.func40, Tryz.ntmps40
  go_wp2_with (go_at_call 75; refine (K1.out ()).mono ?_; rintro e w1 ⟨rfl, hb1⟩; refine Hid.out ?_)
  refine Lib.hid ?_
  go_wp2
  refine bodyPost_ret (by simp [results, Tryz.results40, go_sem]; rfl) rfl ?_
  exact ⟨rfl, hb1⟩
theorem parse_ok (s : ByteArray) (q : Rat) (w : World) (hs : RStr s q) (hls : s.size ≤ 1000000000) (htab : Lib.TabIs Tryz.prog w "internal/strconv.uint64pow10" .u64 Lib.pow10Tab) : Calls Tryz.prog 103 #[.string s] w (Bret (.tuple #[ratS q, .int .i64 0]) w) := by
  have := parse_rat s w hls htab
  rwa [parseR_ok hs.rerr, hs.val] at this
theorem parse_bad_any (s : ByteArray) (w : World) (hs : s.size ≤ 1000000000) (h : rerr (bytes s) ≠ 0) (htab : Lib.TabIs Tryz.prog w "internal/strconv.uint64pow10" .u64 Lib.pow10Tab) : Calls Tryz.prog 103 #[.string s] w (Bret (.tuple #[.agg #[.string ⟨#[]⟩, .string ⟨#[]⟩], .int .i64 (rerr (bytes s) : Nat)]) w) := by
  have := parse_rat s w hs htab
  rwa [parseR_err rfl h] at this
def denQ (q : Rat) : Value := .tuple #[.string (str (Lib.itoa (q.den : Int))), .int .i64 0]
set_option maxHeartbeats 1000000 in
theorem ratDenS (s : ByteArray) (q : Rat) (w : World) (hs : RStr s q) (hls : s.size ≤ 1000000000) (htab : Lib.TabIs Tryz.prog w "internal/strconv.uint64pow10" .u64 Lib.pow10Tab) :
    Calls Tryz.prog 85 #[.string s] w (Bret (denQ q) w) := by
  have hT := Lib.tabBelow_of_tabIs htab
  have C1 : ∀ W : World, Below w.heap.size w W → Calls Tryz.prog 103 #[.string s] W (Bret (.tuple #[ratS q, .int .i64 0]) W) := fun W hW => parse_ok s q W hs hls (hT.on hW).here
  unfold ratS fracV at *
  unfold denQ
  generalize str (Lib.itoa q.num) = a1 at *
  generalize str (Lib.itoa (q.den : Int)) = a2 at *
  have K1 := Lib.hid C1
  clear C1 hs hls hT htab
  go_enter Tryz.func85, Tryz.ntmps85
  go_wp2_with (go_at_call 103; refine (K1.out _ (Below.refl _ _)).mono ?_; rintro e w1 ⟨rfl, hb1⟩; refine Hid.out ?_)
  have B1 : Below w.heap.size w (w1.alloc (Obj.cells #[Value.string a1, Value.string a2] 123)) := Below.chain hb1 ((Below.refl _ _).alloc (Nat.le_refl _) _)
  have HB1 := Lib.hid B1; clear hb1 B1
  refine Lib.hid ?_
  go_wp2
  refine bodyPost_ret (by simp [results, Tryz.results85, go_sem]; rfl) rfl ?_
  exact ⟨rfl, HB1.out⟩
set_option maxHeartbeats 1000000 in
theorem check_gen (s a1 a2 : ByteArray) (e : Nat) (w : World)
    (C1 : ∀ W : World, Below w.heap.size w W → Calls Tryz.prog 103 #[.string s] W (Bret (.tuple #[.agg #[.string a1, .string a2], .int .i64 e]) W)) :
    Calls Tryz.prog 79 #[.string s] w (Bret (.int .i64 e) w) := by
  have K1 := Lib.hid C1; clear C1
  go_enter Tryz.func79, Tryz.ntmps79
  go_wp2_with (go_at_call 103; refine (K1.out _ (Below.refl _ _)).mono ?_; rintro e w1 ⟨rfl, hb1⟩; refine Hid.out ?_)
  have B1 : Below w.heap.size w (w1.alloc (Obj.cells #[Value.string a1, Value.string a2] 123)) := Below.chain hb1 ((Below.refl _ _).alloc (Nat.le_refl _) _)
  have HB1 := Lib.hid B1; clear hb1 B1
  refine Lib.hid ?_
  go_wp2
  go_ret
  exact ⟨rfl, HB1.out⟩
theorem ratCheck (s : ByteArray) (w : World) (hs : s.size ≤ 1000000000) (htab : Lib.TabIs Tryz.prog w "internal/strconv.uint64pow10" .u64 Lib.pow10Tab) :
    Calls Tryz.prog 79 #[.string s] w (Bret (.int .i64 (rerr (bytes s) : Nat)) w) := by
  have hT := Lib.tabBelow_of_tabIs htab
  by_cases h : rerr (bytes s) = 0
  · rw [h]
    exact check_gen s _ _ 0 w fun W hW => by
      have := parse_ok s _ W (rstr_of_rerr h) hs (hT.on hW).here
      exact this
  · exact check_gen s _ _ _ w fun W hW => parse_bad_any s W hs h (hT.on hW).here
end Go.Proofs.YtjobmkdaaionlaaGreatDoor
