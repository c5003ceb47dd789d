import Derived.Test.YtbadibbdoljjhaaGreatDoorOwnRatN

set_option linter.unusedVariables false
/-
  The reference of rational: Compare, Add, Sub, Mul, Div, Neg, Floor, Ceil, Num, Den.
-/
namespace Go.Proofs.YtbadibbdoljjhaaGreatDoor
open Go Go.Proofs Go.RowKit

theorem topS {s : ByteArray} {p : Rat} (w : World) (hs : RStr s p) : Calls Tryz.prog 97 #[.string s] w fun e w' => e = .returned (.string (str (Lib.itoa p.num))) ∧ w' = w := by
  have := refTop s w (by have := hs.size; omega)
  rwa [hs.text, topL_rat] at this
theorem botS {s : ByteArray} {p : Rat} (w : World) (hs : RStr s p) : Calls Tryz.prog 98 #[.string s] w fun e w' => e = .returned (.string (str (Lib.itoa (p.den : Int)))) ∧ w' = w := by
  have := refBottom s w (by have := hs.size; omega)
  rwa [hs.text, botL_rat] at this
theorem largeT {n : Nat} {s : ByteArray} {z : Int} (w : World) (h : Txt n s z) (hn : n ≤ 1000000) : Calls Tryz.prog 109 #[.string s] w fun e w' => e = .returned (.bool (!decide (Fits z))) ∧ w' = w := by
  have := refLarge z w (by have := h.len; omega)
  rwa [lit_txt h.text] at this
theorem orderT {m n : Nat} {s t : ByteArray} {x y : Int} (w : World) (hs : Txt m s x) (ht : Txt n t y) (hm : m ≤ 800000) (hn : n ≤ 800000) : Calls Tryz.prog 110 #[.string s, .string t] w (Bret (.int .i64 (cmpI x y)) w) :=
  refOrderI s t x y w hs.text ht.text (by have := hs.size; omega) (by have := ht.size; omega)
theorem sumT {m n : Nat} {s t : ByteArray} {x y : Int} (w : World) (hs : Txt m s x) (ht : Txt n t y) (hm : m ≤ 800000) (hn : n ≤ 800000) : Calls Tryz.prog 164 #[.string s, .string t] w (Bret (.string (str (Lib.itoa (x + y)))) w) :=
  refSumI s t x y w hs.text ht.text (by have := hs.size; omega) (by have := ht.size; omega)
theorem txt_add {m n : Nat} {a b : ByteArray} {x y : Int} (ha : Txt m a x) (hb : Txt n b y) : Txt (m + n + 1) (str (Lib.itoa (x + y))) (x + y) := by
  have := txt_sub ha (txt_neg' hb)
  rwa [Int.sub_neg] at this

set_option maxHeartbeats 4000000 in
theorem refCompareS (s t : ByteArray) (p q : Rat) (w : World) (hs : RStr s p) (ht : RStr t q) :
    Calls Tryz.prog 42 #[.string s, .string t] w (Bret (cmpQ p q) w) := by
  have A1 := fun W => topS W hs; have A2 := fun W => botS W hs; have B1 := fun W => topS W ht; have B2 := fun W => botS W ht
  have tn := hs.rs.num.txt; have td := hs.rs.den.txt; have un := ht.rs.num.txt; have ud := ht.rs.den.txt
  have CB := fun W => refBoth02 s t W (by have := hs.size; omega) (by have := ht.size; omega)
  rw [show rerrBoth (bytes s) (bytes t) = 0 by unfold rerrBoth; rw [hs.rerr, if_pos rfl, ht.rerr]] at CB
  have P0 := fun W => prodT W tn ud (by decide) (by decide)
  have P1 := fun W => prodT W un td (by decide) (by decide)
  have x0 := txt_prod tn ud; have x1 := txt_prod un td
  have L0 := fun W => largeT W x0 (by decide); have L1 := fun W => largeT W x1 (by decide)
  have OR := fun W => orderT W x0 x1 (by decide) (by decide)
  unfold cmpQ
  clear tn td un ud x0 x1 hs ht
  generalize p.num * (q.den : Int) = x at *
  generalize q.num * (p.den : Int) = y at *
  generalize str (Lib.itoa p.num) = a1 at *
  generalize str (Lib.itoa (p.den : Int)) = a2 at *
  generalize str (Lib.itoa q.num) = b1 at *
  generalize str (Lib.itoa (q.den : Int)) = b2 at *
  generalize str (Lib.itoa x) = sx at *
  generalize str (Lib.itoa y) = sy at *
  generalize cmpI x y = c at *
  have KB := Lib.hid CB; have KP0 := Lib.hid P0; have KP1 := Lib.hid P1; clear CB P0 P1
  have A1' := Lib.hid A1; have A2' := Lib.hid A2; have B1' := Lib.hid B1; have B2' := Lib.hid B2; clear A1 A2 B1 B2
  by_cases h0 : Fits x
  · rw [show (!decide (Fits x)) = false by simp [h0]] at L0
    by_cases h1 : Fits y
    · rw [show (!decide (Fits y)) = false by simp [h1]] at L1
      rw [if_pos ⟨h0, h1⟩]
      have KL0 := Lib.hid L0; have KL1 := Lib.hid L1; have KO := Lib.hid OR; clear L0 L1 OR h0 h1
      go_enter Tryz.func42, Tryz.ntmps42
      go_wp2_with (go_at_call 108; refine (KB.out _).mono ?_; rintro e w1 ⟨rfl, hb1⟩; refine Hid.out ?_)
      refine Lib.hid ?_
      go_wp2_with (go_at_call 97; refine (A1'.out _).mono ?_; rintro e w2 ⟨rfl, h⟩; subst h; refine Hid.out ?_)
      refine Lib.hid ?_
      go_wp2_with (go_at_call 98; refine (B2'.out _).mono ?_; rintro e w3 ⟨rfl, h⟩; subst h; refine Hid.out ?_)
      refine Lib.hid ?_
      go_wp2_with (go_at_call 88; refine (KP0.out _).mono ?_; rintro e w4 ⟨rfl, hb4⟩; refine Hid.out ?_)
      have hB4 := Below.chain hb1 hb4; clear hb4 hb1
      refine Lib.hid ?_
      go_wp2_with (go_at_call 97; refine (B1'.out _).mono ?_; rintro e w5 ⟨rfl, h⟩; subst h; refine Hid.out ?_)
      refine Lib.hid ?_
      go_wp2_with (go_at_call 98; refine (A2'.out _).mono ?_; rintro e w6 ⟨rfl, h⟩; subst h; refine Hid.out ?_)
      refine Lib.hid ?_
      go_wp2_with (go_at_call 88; refine (KP1.out _).mono ?_; rintro e w7 ⟨rfl, hb7⟩; refine Hid.out ?_)
      have hB7 := Below.chain hB4 hb7; clear hb7 hB4
      refine Lib.hid ?_
      go_wp2_with (go_at_call 109; refine (KL0.out _).mono ?_; rintro e w8 ⟨rfl, h⟩; subst h; refine Hid.out ?_)
      refine Lib.hid ?_
      go_wp2_with (go_at_call 109; refine (KL1.out _).mono ?_; rintro e w9 ⟨rfl, h⟩; subst h; refine Hid.out ?_)
      refine Lib.hid ?_
      go_wp2_with (go_at_call 110; refine (KO.out _).mono ?_; rintro e w10 ⟨rfl, hb10⟩; refine Hid.out ?_)
      have hB10 := Below.chain hB7 hb10; clear hb10 hB7
      refine Lib.hid ?_
      go_wp2
      refine bodyPost_ret (by simp [results, Tryz.results42, go_sem]; rfl) rfl ?_
      exact ⟨rfl, hB10⟩
    · rw [show (!decide (Fits y)) = true by simp [h1]] at L1
      rw [if_neg (fun h => h1 h.2)]
      have KL0 := Lib.hid L0; have KL1 := Lib.hid L1; clear L0 L1 OR h0 h1
      go_enter Tryz.func42, Tryz.ntmps42
      go_wp2_with (go_at_call 108; refine (KB.out _).mono ?_; rintro e w1 ⟨rfl, hb1⟩; refine Hid.out ?_)
      refine Lib.hid ?_
      go_wp2_with (go_at_call 97; refine (A1'.out _).mono ?_; rintro e w2 ⟨rfl, h⟩; subst h; refine Hid.out ?_)
      refine Lib.hid ?_
      go_wp2_with (go_at_call 98; refine (B2'.out _).mono ?_; rintro e w3 ⟨rfl, h⟩; subst h; refine Hid.out ?_)
      refine Lib.hid ?_
      go_wp2_with (go_at_call 88; refine (KP0.out _).mono ?_; rintro e w4 ⟨rfl, hb4⟩; refine Hid.out ?_)
      have hB4 := Below.chain hb1 hb4; clear hb4 hb1
      refine Lib.hid ?_
      go_wp2_with (go_at_call 97; refine (B1'.out _).mono ?_; rintro e w5 ⟨rfl, h⟩; subst h; refine Hid.out ?_)
      refine Lib.hid ?_
      go_wp2_with (go_at_call 98; refine (A2'.out _).mono ?_; rintro e w6 ⟨rfl, h⟩; subst h; refine Hid.out ?_)
      refine Lib.hid ?_
      go_wp2_with (go_at_call 88; refine (KP1.out _).mono ?_; rintro e w7 ⟨rfl, hb7⟩; refine Hid.out ?_)
      have hB7 := Below.chain hB4 hb7; clear hb7 hB4
      refine Lib.hid ?_
      go_wp2_with (go_at_call 109; refine (KL0.out _).mono ?_; rintro e w8 ⟨rfl, h⟩; subst h; refine Hid.out ?_)
      refine Lib.hid ?_
      go_wp2_with (go_at_call 109; refine (KL1.out _).mono ?_; rintro e w9 ⟨rfl, h⟩; subst h; refine Hid.out ?_)
      refine Lib.hid ?_
      go_wp2
      refine bodyPost_ret (by simp [results, Tryz.results42, go_sem]; rfl) rfl ?_
      exact ⟨rfl, hB7⟩
  · rw [show (!decide (Fits x)) = true by simp [h0]] at L0
    rw [if_neg (fun h => h0 h.1)]
    have KL0 := Lib.hid L0; clear L0 L1 OR h0
    go_enter Tryz.func42, Tryz.ntmps42
    go_wp2_with (go_at_call 108; refine (KB.out _).mono ?_; rintro e w1 ⟨rfl, hb1⟩; refine Hid.out ?_)
    refine Lib.hid ?_
    go_wp2_with (go_at_call 97; refine (A1'.out _).mono ?_; rintro e w2 ⟨rfl, h⟩; subst h; refine Hid.out ?_)
    refine Lib.hid ?_
    go_wp2_with (go_at_call 98; refine (B2'.out _).mono ?_; rintro e w3 ⟨rfl, h⟩; subst h; refine Hid.out ?_)
    refine Lib.hid ?_
    go_wp2_with (go_at_call 88; refine (KP0.out _).mono ?_; rintro e w4 ⟨rfl, hb4⟩; refine Hid.out ?_)
    have hB4 := Below.chain hb1 hb4; clear hb4 hb1
    refine Lib.hid ?_
    go_wp2_with (go_at_call 97; refine (B1'.out _).mono ?_; rintro e w5 ⟨rfl, h⟩; subst h; refine Hid.out ?_)
    refine Lib.hid ?_
    go_wp2_with (go_at_call 98; refine (A2'.out _).mono ?_; rintro e w6 ⟨rfl, h⟩; subst h; refine Hid.out ?_)
    refine Lib.hid ?_
    go_wp2_with (go_at_call 88; refine (KP1.out _).mono ?_; rintro e w7 ⟨rfl, hb7⟩; refine Hid.out ?_)
    have hB7 := Below.chain hB4 hb7; clear hb7 hB4
    refine Lib.hid ?_
    go_wp2_with (go_at_call 109; refine (KL0.out _).mono ?_; rintro e w8 ⟨rfl, h⟩; subst h; refine Hid.out ?_)
    refine Lib.hid ?_
    go_wp2
    refine bodyPost_ret (by simp [results, Tryz.results42, go_sem]; rfl) rfl ?_
    exact ⟨rfl, hB7⟩
set_option maxHeartbeats 1000000 in
theorem refCompare_e_3 (s t : ByteArray) (w : World)
    (C1 : ∀ W, Calls Tryz.prog 108 #[.string s, .string t] W (Bret (.int .i64 3) W)) :
    Calls Tryz.prog 42 #[.string s, .string t] w (Bret (.tuple #[.int .i64 0, .int .i64 3]) w) := by
  have K1 := Lib.hid C1; clear C1
  go_enter Tryz.func42, Tryz.ntmps42
  go_wp2_with (go_at_call 108; refine (K1.out _).mono ?_; rintro e w1 ⟨rfl, hb1⟩; refine Hid.out ?_)
  refine Lib.hid ?_
  go_wp2
  refine bodyPost_ret (by simp [results, Tryz.results42, go_sem]; rfl) rfl ?_
  exact ⟨rfl, hb1⟩
set_option maxHeartbeats 1000000 in
theorem refCompare_e_10 (s t : ByteArray) (w : World)
    (C1 : ∀ W, Calls Tryz.prog 108 #[.string s, .string t] W (Bret (.int .i64 10) W)) :
    Calls Tryz.prog 42 #[.string s, .string t] w (Bret (.tuple #[.int .i64 0, .int .i64 10]) w) := by
  have K1 := Lib.hid C1; clear C1
  go_enter Tryz.func42, Tryz.ntmps42
  go_wp2_with (go_at_call 108; refine (K1.out _).mono ?_; rintro e w1 ⟨rfl, hb1⟩; refine Hid.out ?_)
  refine Lib.hid ?_
  go_wp2
  refine bodyPost_ret (by simp [results, Tryz.results42, go_sem]; rfl) rfl ?_
  exact ⟨rfl, hb1⟩
theorem refCompare02 (s t : ByteArray) (w : World) (hs : s.size ≤ 800000) (ht : t.size ≤ 800000) :
    Calls Tryz.prog 42 #[.string s, .string t] w (Bret (ratCmp (bytes s) (bytes t)) w) := by
  unfold ratCmp
  have C1 := fun W => refBoth02 s t W hs ht
  rcases rerrBoth_cases (bytes s) (bytes t) with h | h | h
  · rw [if_pos h]
    obtain ⟨h1, h2⟩ := rerrBoth_zero h
    exact refCompareS s t _ _ w (rstr_of_rerr h1) (rstr_of_rerr h2)
  · rw [if_neg (by omega)]; rw [h] at C1 ⊢; exact refCompare_e_3 s t w C1
  · rw [if_neg (by omega)]; rw [h] at C1 ⊢; exact refCompare_e_10 s t w C1

set_option maxHeartbeats 8000000 in
theorem refSumAdd (s t : ByteArray) (p q : Rat) (w : World) (hs : RStr s p) (ht : RStr t q) :
    Calls Tryz.prog 112 #[.string s, .string t, .bool false] w (Bret (addQ p q) w) := by
  have A1 := fun W => topS W hs; have A2 := fun W => botS W hs; have B1 := fun W => topS W ht; have B2 := fun W => botS W ht
  have tn := hs.rs.num.txt; have td := hs.rs.den.txt; have un := ht.rs.num.txt; have ud := ht.rs.den.txt
  have CB := fun W => refBoth02 s t W (by have := hs.size; omega) (by have := ht.size; omega)
  rw [show rerrBoth (bytes s) (bytes t) = 0 by unfold rerrBoth; rw [hs.rerr, if_pos rfl, ht.rerr]] at CB
  have P0 := fun W => prodT W tn ud (by decide) (by decide)
  have P1 := fun W => prodT W un td (by decide) (by decide)
  have P2 := fun W => prodT W td ud (by decide) (by decide)
  have x0 := txt_prod tn ud; have x1 := txt_prod un td; have x2 := txt_prod td ud
  have SU := fun W => sumT W x0 x1 (by decide) (by decide)
  have DI := fun W => diffT W x0 x1 (by decide) (by decide)
  have x3 := txt_add x0 x1
  have L0 := fun W => largeT W x0 (by decide); have L1 := fun W => largeT W x1 (by decide); have L2 := fun W => largeT W x3 (by decide); have L3 := fun W => largeT W x2 (by decide)
  have FR := fun W => fracT W x3 x2 (by decide) (by decide) (den_mul_ne p q)
  rw [divInt_add p q] at FR
  unfold addQ opQ addF
  clear tn td un ud x0 x1 x2 x3 hs ht
  generalize str (ratL (p + q)) = r at *
  generalize p.num * (q.den : Int) = x at *
  generalize q.num * (p.den : Int) = y at *
  generalize (p.den : Int) * (q.den : Int) = d at *
  generalize str (Lib.itoa p.num) = a1 at *
  generalize str (Lib.itoa (p.den : Int)) = a2 at *
  generalize str (Lib.itoa q.num) = b1 at *
  generalize str (Lib.itoa (q.den : Int)) = b2 at *
  generalize str (Lib.itoa d) = sd at *
  generalize decide (Fits d) = f3 at *
  generalize decide (Fits (x + y)) = f2 at *
  generalize decide (Fits x) = f0 at *
  generalize decide (Fits y) = f1 at *
  generalize str (Lib.itoa (x + y)) = stt at *
  generalize str (Lib.itoa x) = sx at *
  generalize str (Lib.itoa y) = sy at *
  have KB := Lib.hid CB; have KP0 := Lib.hid P0; have KP1 := Lib.hid P1; have KP2 := Lib.hid P2; have KS := Lib.hid SU; have KD := Lib.hid DI; have KF := Lib.hid FR; have KL0 := Lib.hid L0; have KL1 := Lib.hid L1; have KL2 := Lib.hid L2; have KL3 := Lib.hid L3
  clear CB P0 P1 P2 SU DI FR L0 L1 L2 L3
  have A1' := Lib.hid A1; have A2' := Lib.hid A2; have B1' := Lib.hid B1; have B2' := Lib.hid B2; clear A1 A2 B1 B2
  unfold errV
  cases f0
  · rw [if_neg (by simp)]
    go_enter Tryz.func112, Tryz.ntmps112
    go_wp2_with (go_at_call 108; refine (KB.out _).mono ?_; rintro e w1 ⟨rfl, hb1⟩; refine Hid.out ?_)
    refine Lib.hid ?_
    go_wp2_with (go_at_call 97; refine (A1'.out _).mono ?_; rintro e w2 ⟨rfl, h⟩; subst h; refine Hid.out ?_)
    refine Lib.hid ?_
    go_wp2_with (go_at_call 98; refine (B2'.out _).mono ?_; rintro e w3 ⟨rfl, h⟩; subst h; refine Hid.out ?_)
    refine Lib.hid ?_
    go_wp2_with (go_at_call 88; refine (KP0.out _).mono ?_; rintro e w4 ⟨rfl, hb4⟩; refine Hid.out ?_)
    have hB4 := Below.chain hb1 hb4; clear hb4 hb1
    refine Lib.hid ?_
    go_wp2_with (go_at_call 97; refine (B1'.out _).mono ?_; rintro e w5 ⟨rfl, h⟩; subst h; refine Hid.out ?_)
    refine Lib.hid ?_
    go_wp2_with (go_at_call 98; refine (A2'.out _).mono ?_; rintro e w6 ⟨rfl, h⟩; subst h; refine Hid.out ?_)
    refine Lib.hid ?_
    go_wp2_with (go_at_call 88; refine (KP1.out _).mono ?_; rintro e w7 ⟨rfl, hb7⟩; refine Hid.out ?_)
    have hB7 := Below.chain hB4 hb7; clear hb7 hB4
    refine Lib.hid ?_
    go_wp2_with (go_at_call 98; refine (A2'.out _).mono ?_; rintro e w8 ⟨rfl, h⟩; subst h; refine Hid.out ?_)
    refine Lib.hid ?_
    go_wp2_with (go_at_call 98; refine (B2'.out _).mono ?_; rintro e w9 ⟨rfl, h⟩; subst h; refine Hid.out ?_)
    refine Lib.hid ?_
    go_wp2_with (go_at_call 88; refine (KP2.out _).mono ?_; rintro e w10 ⟨rfl, hb10⟩; refine Hid.out ?_)
    have hB10 := Below.chain hB7 hb10; clear hb10 hB7
    refine Lib.hid ?_
    go_wp2_with (go_at_call 164; refine (KS.out _).mono ?_; rintro e w11 ⟨rfl, hb11⟩; refine Hid.out ?_)
    have hB11 := Below.chain hB10 hb11; clear hb11 hB10
    refine Lib.hid ?_
    go_wp2_with (go_at_call 109; refine (KL0.out _).mono ?_; rintro e w12 ⟨rfl, h⟩; subst h; refine Hid.out ?_)
    refine Lib.hid ?_
    go_wp2
    refine bodyPost_ret (by simp [results, Tryz.results112, go_sem]; rfl) rfl ?_
    exact ⟨rfl, hB11⟩
  cases f1
  · rw [if_neg (by simp)]
    go_enter Tryz.func112, Tryz.ntmps112
    go_wp2_with (go_at_call 108; refine (KB.out _).mono ?_; rintro e w1 ⟨rfl, hb1⟩; refine Hid.out ?_)
    refine Lib.hid ?_
    go_wp2_with (go_at_call 97; refine (A1'.out _).mono ?_; rintro e w2 ⟨rfl, h⟩; subst h; refine Hid.out ?_)
    refine Lib.hid ?_
    go_wp2_with (go_at_call 98; refine (B2'.out _).mono ?_; rintro e w3 ⟨rfl, h⟩; subst h; refine Hid.out ?_)
    refine Lib.hid ?_
    go_wp2_with (go_at_call 88; refine (KP0.out _).mono ?_; rintro e w4 ⟨rfl, hb4⟩; refine Hid.out ?_)
    have hB4 := Below.chain hb1 hb4; clear hb4 hb1
    refine Lib.hid ?_
    go_wp2_with (go_at_call 97; refine (B1'.out _).mono ?_; rintro e w5 ⟨rfl, h⟩; subst h; refine Hid.out ?_)
    refine Lib.hid ?_
    go_wp2_with (go_at_call 98; refine (A2'.out _).mono ?_; rintro e w6 ⟨rfl, h⟩; subst h; refine Hid.out ?_)
    refine Lib.hid ?_
    go_wp2_with (go_at_call 88; refine (KP1.out _).mono ?_; rintro e w7 ⟨rfl, hb7⟩; refine Hid.out ?_)
    have hB7 := Below.chain hB4 hb7; clear hb7 hB4
    refine Lib.hid ?_
    go_wp2_with (go_at_call 98; refine (A2'.out _).mono ?_; rintro e w8 ⟨rfl, h⟩; subst h; refine Hid.out ?_)
    refine Lib.hid ?_
    go_wp2_with (go_at_call 98; refine (B2'.out _).mono ?_; rintro e w9 ⟨rfl, h⟩; subst h; refine Hid.out ?_)
    refine Lib.hid ?_
    go_wp2_with (go_at_call 88; refine (KP2.out _).mono ?_; rintro e w10 ⟨rfl, hb10⟩; refine Hid.out ?_)
    have hB10 := Below.chain hB7 hb10; clear hb10 hB7
    refine Lib.hid ?_
    go_wp2_with (go_at_call 164; refine (KS.out _).mono ?_; rintro e w11 ⟨rfl, hb11⟩; refine Hid.out ?_)
    have hB11 := Below.chain hB10 hb11; clear hb11 hB10
    refine Lib.hid ?_
    go_wp2_with (go_at_call 109; refine (KL0.out _).mono ?_; rintro e w12 ⟨rfl, h⟩; subst h; refine Hid.out ?_)
    refine Lib.hid ?_
    go_wp2_with (go_at_call 109; refine (KL1.out _).mono ?_; rintro e w13 ⟨rfl, h⟩; subst h; refine Hid.out ?_)
    refine Lib.hid ?_
    go_wp2
    refine bodyPost_ret (by simp [results, Tryz.results112, go_sem]; rfl) rfl ?_
    exact ⟨rfl, hB11⟩
  cases f2
  · rw [if_neg (by simp)]
    go_enter Tryz.func112, Tryz.ntmps112
    go_wp2_with (go_at_call 108; refine (KB.out _).mono ?_; rintro e w1 ⟨rfl, hb1⟩; refine Hid.out ?_)
    refine Lib.hid ?_
    go_wp2_with (go_at_call 97; refine (A1'.out _).mono ?_; rintro e w2 ⟨rfl, h⟩; subst h; refine Hid.out ?_)
    refine Lib.hid ?_
    go_wp2_with (go_at_call 98; refine (B2'.out _).mono ?_; rintro e w3 ⟨rfl, h⟩; subst h; refine Hid.out ?_)
    refine Lib.hid ?_
    go_wp2_with (go_at_call 88; refine (KP0.out _).mono ?_; rintro e w4 ⟨rfl, hb4⟩; refine Hid.out ?_)
    have hB4 := Below.chain hb1 hb4; clear hb4 hb1
    refine Lib.hid ?_
    go_wp2_with (go_at_call 97; refine (B1'.out _).mono ?_; rintro e w5 ⟨rfl, h⟩; subst h; refine Hid.out ?_)
    refine Lib.hid ?_
    go_wp2_with (go_at_call 98; refine (A2'.out _).mono ?_; rintro e w6 ⟨rfl, h⟩; subst h; refine Hid.out ?_)
    refine Lib.hid ?_
    go_wp2_with (go_at_call 88; refine (KP1.out _).mono ?_; rintro e w7 ⟨rfl, hb7⟩; refine Hid.out ?_)
    have hB7 := Below.chain hB4 hb7; clear hb7 hB4
    refine Lib.hid ?_
    go_wp2_with (go_at_call 98; refine (A2'.out _).mono ?_; rintro e w8 ⟨rfl, h⟩; subst h; refine Hid.out ?_)
    refine Lib.hid ?_
    go_wp2_with (go_at_call 98; refine (B2'.out _).mono ?_; rintro e w9 ⟨rfl, h⟩; subst h; refine Hid.out ?_)
    refine Lib.hid ?_
    go_wp2_with (go_at_call 88; refine (KP2.out _).mono ?_; rintro e w10 ⟨rfl, hb10⟩; refine Hid.out ?_)
    have hB10 := Below.chain hB7 hb10; clear hb10 hB7
    refine Lib.hid ?_
    go_wp2_with (go_at_call 164; refine (KS.out _).mono ?_; rintro e w11 ⟨rfl, hb11⟩; refine Hid.out ?_)
    have hB11 := Below.chain hB10 hb11; clear hb11 hB10
    refine Lib.hid ?_
    go_wp2_with (go_at_call 109; refine (KL0.out _).mono ?_; rintro e w12 ⟨rfl, h⟩; subst h; refine Hid.out ?_)
    refine Lib.hid ?_
    go_wp2_with (go_at_call 109; refine (KL1.out _).mono ?_; rintro e w13 ⟨rfl, h⟩; subst h; refine Hid.out ?_)
    refine Lib.hid ?_
    go_wp2_with (go_at_call 109; refine (KL2.out _).mono ?_; rintro e w14 ⟨rfl, h⟩; subst h; refine Hid.out ?_)
    refine Lib.hid ?_
    go_wp2
    refine bodyPost_ret (by simp [results, Tryz.results112, go_sem]; rfl) rfl ?_
    exact ⟨rfl, hB11⟩
  cases f3
  · rw [if_neg (by simp)]
    go_enter Tryz.func112, Tryz.ntmps112
    go_wp2_with (go_at_call 108; refine (KB.out _).mono ?_; rintro e w1 ⟨rfl, hb1⟩; refine Hid.out ?_)
    refine Lib.hid ?_
    go_wp2_with (go_at_call 97; refine (A1'.out _).mono ?_; rintro e w2 ⟨rfl, h⟩; subst h; refine Hid.out ?_)
    refine Lib.hid ?_
    go_wp2_with (go_at_call 98; refine (B2'.out _).mono ?_; rintro e w3 ⟨rfl, h⟩; subst h; refine Hid.out ?_)
    refine Lib.hid ?_
    go_wp2_with (go_at_call 88; refine (KP0.out _).mono ?_; rintro e w4 ⟨rfl, hb4⟩; refine Hid.out ?_)
    have hB4 := Below.chain hb1 hb4; clear hb4 hb1
    refine Lib.hid ?_
    go_wp2_with (go_at_call 97; refine (B1'.out _).mono ?_; rintro e w5 ⟨rfl, h⟩; subst h; refine Hid.out ?_)
    refine Lib.hid ?_
    go_wp2_with (go_at_call 98; refine (A2'.out _).mono ?_; rintro e w6 ⟨rfl, h⟩; subst h; refine Hid.out ?_)
    refine Lib.hid ?_
    go_wp2_with (go_at_call 88; refine (KP1.out _).mono ?_; rintro e w7 ⟨rfl, hb7⟩; refine Hid.out ?_)
    have hB7 := Below.chain hB4 hb7; clear hb7 hB4
    refine Lib.hid ?_
    go_wp2_with (go_at_call 98; refine (A2'.out _).mono ?_; rintro e w8 ⟨rfl, h⟩; subst h; refine Hid.out ?_)
    refine Lib.hid ?_
    go_wp2_with (go_at_call 98; refine (B2'.out _).mono ?_; rintro e w9 ⟨rfl, h⟩; subst h; refine Hid.out ?_)
    refine Lib.hid ?_
    go_wp2_with (go_at_call 88; refine (KP2.out _).mono ?_; rintro e w10 ⟨rfl, hb10⟩; refine Hid.out ?_)
    have hB10 := Below.chain hB7 hb10; clear hb10 hB7
    refine Lib.hid ?_
    go_wp2_with (go_at_call 164; refine (KS.out _).mono ?_; rintro e w11 ⟨rfl, hb11⟩; refine Hid.out ?_)
    have hB11 := Below.chain hB10 hb11; clear hb11 hB10
    refine Lib.hid ?_
    go_wp2_with (go_at_call 109; refine (KL0.out _).mono ?_; rintro e w12 ⟨rfl, h⟩; subst h; refine Hid.out ?_)
    refine Lib.hid ?_
    go_wp2_with (go_at_call 109; refine (KL1.out _).mono ?_; rintro e w13 ⟨rfl, h⟩; subst h; refine Hid.out ?_)
    refine Lib.hid ?_
    go_wp2_with (go_at_call 109; refine (KL2.out _).mono ?_; rintro e w14 ⟨rfl, h⟩; subst h; refine Hid.out ?_)
    refine Lib.hid ?_
    go_wp2_with (go_at_call 109; refine (KL3.out _).mono ?_; rintro e w15 ⟨rfl, h⟩; subst h; refine Hid.out ?_)
    refine Lib.hid ?_
    go_wp2
    refine bodyPost_ret (by simp [results, Tryz.results112, go_sem]; rfl) rfl ?_
    exact ⟨rfl, hB11⟩
  · rw [if_pos (by simp)]
    go_enter Tryz.func112, Tryz.ntmps112
    go_wp2_with (go_at_call 108; refine (KB.out _).mono ?_; rintro e w1 ⟨rfl, hb1⟩; refine Hid.out ?_)
    refine Lib.hid ?_
    go_wp2_with (go_at_call 97; refine (A1'.out _).mono ?_; rintro e w2 ⟨rfl, h⟩; subst h; refine Hid.out ?_)
    refine Lib.hid ?_
    go_wp2_with (go_at_call 98; refine (B2'.out _).mono ?_; rintro e w3 ⟨rfl, h⟩; subst h; refine Hid.out ?_)
    refine Lib.hid ?_
    go_wp2_with (go_at_call 88; refine (KP0.out _).mono ?_; rintro e w4 ⟨rfl, hb4⟩; refine Hid.out ?_)
    have hB4 := Below.chain hb1 hb4; clear hb4 hb1
    refine Lib.hid ?_
    go_wp2_with (go_at_call 97; refine (B1'.out _).mono ?_; rintro e w5 ⟨rfl, h⟩; subst h; refine Hid.out ?_)
    refine Lib.hid ?_
    go_wp2_with (go_at_call 98; refine (A2'.out _).mono ?_; rintro e w6 ⟨rfl, h⟩; subst h; refine Hid.out ?_)
    refine Lib.hid ?_
    go_wp2_with (go_at_call 88; refine (KP1.out _).mono ?_; rintro e w7 ⟨rfl, hb7⟩; refine Hid.out ?_)
    have hB7 := Below.chain hB4 hb7; clear hb7 hB4
    refine Lib.hid ?_
    go_wp2_with (go_at_call 98; refine (A2'.out _).mono ?_; rintro e w8 ⟨rfl, h⟩; subst h; refine Hid.out ?_)
    refine Lib.hid ?_
    go_wp2_with (go_at_call 98; refine (B2'.out _).mono ?_; rintro e w9 ⟨rfl, h⟩; subst h; refine Hid.out ?_)
    refine Lib.hid ?_
    go_wp2_with (go_at_call 88; refine (KP2.out _).mono ?_; rintro e w10 ⟨rfl, hb10⟩; refine Hid.out ?_)
    have hB10 := Below.chain hB7 hb10; clear hb10 hB7
    refine Lib.hid ?_
    go_wp2_with (go_at_call 164; refine (KS.out _).mono ?_; rintro e w11 ⟨rfl, hb11⟩; refine Hid.out ?_)
    have hB11 := Below.chain hB10 hb11; clear hb11 hB10
    refine Lib.hid ?_
    go_wp2_with (go_at_call 109; refine (KL0.out _).mono ?_; rintro e w12 ⟨rfl, h⟩; subst h; refine Hid.out ?_)
    refine Lib.hid ?_
    go_wp2_with (go_at_call 109; refine (KL1.out _).mono ?_; rintro e w13 ⟨rfl, h⟩; subst h; refine Hid.out ?_)
    refine Lib.hid ?_
    go_wp2_with (go_at_call 109; refine (KL2.out _).mono ?_; rintro e w14 ⟨rfl, h⟩; subst h; refine Hid.out ?_)
    refine Lib.hid ?_
    go_wp2_with (go_at_call 109; refine (KL3.out _).mono ?_; rintro e w15 ⟨rfl, h⟩; subst h; refine Hid.out ?_)
    refine Lib.hid ?_
    go_wp2_with (go_at_call 105; refine (KF.out _).mono ?_; rintro e w16 ⟨rfl, hb16⟩; refine Hid.out ?_)
    have hB16 := Below.chain hB11 hb16; clear hb16 hB11
    refine Lib.hid ?_
    go_wp2
    refine bodyPost_ret (by simp [results, Tryz.results112, go_sem]; rfl) rfl ?_
    exact ⟨rfl, hB16⟩
set_option maxHeartbeats 8000000 in
theorem refSumSub (s t : ByteArray) (p q : Rat) (w : World) (hs : RStr s p) (ht : RStr t q) :
    Calls Tryz.prog 112 #[.string s, .string t, .bool true] w (Bret (subQ p q) w) := by
  have A1 := fun W => topS W hs; have A2 := fun W => botS W hs; have B1 := fun W => topS W ht; have B2 := fun W => botS W ht
  have tn := hs.rs.num.txt; have td := hs.rs.den.txt; have un := ht.rs.num.txt; have ud := ht.rs.den.txt
  have CB := fun W => refBoth02 s t W (by have := hs.size; omega) (by have := ht.size; omega)
  rw [show rerrBoth (bytes s) (bytes t) = 0 by unfold rerrBoth; rw [hs.rerr, if_pos rfl, ht.rerr]] at CB
  have P0 := fun W => prodT W tn ud (by decide) (by decide)
  have P1 := fun W => prodT W un td (by decide) (by decide)
  have P2 := fun W => prodT W td ud (by decide) (by decide)
  have x0 := txt_prod tn ud; have x1 := txt_prod un td; have x2 := txt_prod td ud
  have SU := fun W => sumT W x0 x1 (by decide) (by decide)
  have DI := fun W => diffT W x0 x1 (by decide) (by decide)
  have x3 := txt_sub x0 x1
  have L0 := fun W => largeT W x0 (by decide); have L1 := fun W => largeT W x1 (by decide); have L2 := fun W => largeT W x3 (by decide); have L3 := fun W => largeT W x2 (by decide)
  have FR := fun W => fracT W x3 x2 (by decide) (by decide) (den_mul_ne p q)
  rw [divInt_sub p q] at FR
  unfold subQ opQ subF
  clear tn td un ud x0 x1 x2 x3 hs ht
  generalize str (ratL (p - q)) = r at *
  generalize p.num * (q.den : Int) = x at *
  generalize q.num * (p.den : Int) = y at *
  generalize (p.den : Int) * (q.den : Int) = d at *
  generalize str (Lib.itoa p.num) = a1 at *
  generalize str (Lib.itoa (p.den : Int)) = a2 at *
  generalize str (Lib.itoa q.num) = b1 at *
  generalize str (Lib.itoa (q.den : Int)) = b2 at *
  generalize str (Lib.itoa d) = sd at *
  generalize decide (Fits d) = f3 at *
  generalize decide (Fits (x - y)) = f2 at *
  generalize decide (Fits x) = f0 at *
  generalize decide (Fits y) = f1 at *
  generalize str (Lib.itoa (x - y)) = stt at *
  generalize str (Lib.itoa (x + y)) = su at *
  generalize str (Lib.itoa x) = sx at *
  generalize str (Lib.itoa y) = sy at *
  have KB := Lib.hid CB; have KP0 := Lib.hid P0; have KP1 := Lib.hid P1; have KP2 := Lib.hid P2; have KS := Lib.hid SU; have KD := Lib.hid DI; have KF := Lib.hid FR; have KL0 := Lib.hid L0; have KL1 := Lib.hid L1; have KL2 := Lib.hid L2; have KL3 := Lib.hid L3
  clear CB P0 P1 P2 SU DI FR L0 L1 L2 L3
  have A1' := Lib.hid A1; have A2' := Lib.hid A2; have B1' := Lib.hid B1; have B2' := Lib.hid B2; clear A1 A2 B1 B2
  unfold errV
  cases f0
  · rw [if_neg (by simp)]
    go_enter Tryz.func112, Tryz.ntmps112
    go_wp2_with (go_at_call 108; refine (KB.out _).mono ?_; rintro e w1 ⟨rfl, hb1⟩; refine Hid.out ?_)
    refine Lib.hid ?_
    go_wp2_with (go_at_call 97; refine (A1'.out _).mono ?_; rintro e w2 ⟨rfl, h⟩; subst h; refine Hid.out ?_)
    refine Lib.hid ?_
    go_wp2_with (go_at_call 98; refine (B2'.out _).mono ?_; rintro e w3 ⟨rfl, h⟩; subst h; refine Hid.out ?_)
    refine Lib.hid ?_
    go_wp2_with (go_at_call 88; refine (KP0.out _).mono ?_; rintro e w4 ⟨rfl, hb4⟩; refine Hid.out ?_)
    have hB4 := Below.chain hb1 hb4; clear hb4 hb1
    refine Lib.hid ?_
    go_wp2_with (go_at_call 97; refine (B1'.out _).mono ?_; rintro e w5 ⟨rfl, h⟩; subst h; refine Hid.out ?_)
    refine Lib.hid ?_
    go_wp2_with (go_at_call 98; refine (A2'.out _).mono ?_; rintro e w6 ⟨rfl, h⟩; subst h; refine Hid.out ?_)
    refine Lib.hid ?_
    go_wp2_with (go_at_call 88; refine (KP1.out _).mono ?_; rintro e w7 ⟨rfl, hb7⟩; refine Hid.out ?_)
    have hB7 := Below.chain hB4 hb7; clear hb7 hB4
    refine Lib.hid ?_
    go_wp2_with (go_at_call 98; refine (A2'.out _).mono ?_; rintro e w8 ⟨rfl, h⟩; subst h; refine Hid.out ?_)
    refine Lib.hid ?_
    go_wp2_with (go_at_call 98; refine (B2'.out _).mono ?_; rintro e w9 ⟨rfl, h⟩; subst h; refine Hid.out ?_)
    refine Lib.hid ?_
    go_wp2_with (go_at_call 88; refine (KP2.out _).mono ?_; rintro e w10 ⟨rfl, hb10⟩; refine Hid.out ?_)
    have hB10 := Below.chain hB7 hb10; clear hb10 hB7
    refine Lib.hid ?_
    go_wp2_with (go_at_call 164; refine (KS.out _).mono ?_; rintro e w11 ⟨rfl, hb11⟩; refine Hid.out ?_)
    have hB11 := Below.chain hB10 hb11; clear hb11 hB10
    refine Lib.hid ?_
    go_wp2_with (go_at_call 150; refine (KD.out _).mono ?_; rintro e w12 ⟨rfl, hb12⟩; refine Hid.out ?_)
    have hB12 := Below.chain hB11 hb12; clear hb12 hB11
    refine Lib.hid ?_
    go_wp2_with (go_at_call 109; refine (KL0.out _).mono ?_; rintro e w13 ⟨rfl, h⟩; subst h; refine Hid.out ?_)
    refine Lib.hid ?_
    go_wp2
    refine bodyPost_ret (by simp [results, Tryz.results112, go_sem]; rfl) rfl ?_
    exact ⟨rfl, hB12⟩
  cases f1
  · rw [if_neg (by simp)]
    go_enter Tryz.func112, Tryz.ntmps112
    go_wp2_with (go_at_call 108; refine (KB.out _).mono ?_; rintro e w1 ⟨rfl, hb1⟩; refine Hid.out ?_)
    refine Lib.hid ?_
    go_wp2_with (go_at_call 97; refine (A1'.out _).mono ?_; rintro e w2 ⟨rfl, h⟩; subst h; refine Hid.out ?_)
    refine Lib.hid ?_
    go_wp2_with (go_at_call 98; refine (B2'.out _).mono ?_; rintro e w3 ⟨rfl, h⟩; subst h; refine Hid.out ?_)
    refine Lib.hid ?_
    go_wp2_with (go_at_call 88; refine (KP0.out _).mono ?_; rintro e w4 ⟨rfl, hb4⟩; refine Hid.out ?_)
    have hB4 := Below.chain hb1 hb4; clear hb4 hb1
    refine Lib.hid ?_
    go_wp2_with (go_at_call 97; refine (B1'.out _).mono ?_; rintro e w5 ⟨rfl, h⟩; subst h; refine Hid.out ?_)
    refine Lib.hid ?_
    go_wp2_with (go_at_call 98; refine (A2'.out _).mono ?_; rintro e w6 ⟨rfl, h⟩; subst h; refine Hid.out ?_)
    refine Lib.hid ?_
    go_wp2_with (go_at_call 88; refine (KP1.out _).mono ?_; rintro e w7 ⟨rfl, hb7⟩; refine Hid.out ?_)
    have hB7 := Below.chain hB4 hb7; clear hb7 hB4
    refine Lib.hid ?_
    go_wp2_with (go_at_call 98; refine (A2'.out _).mono ?_; rintro e w8 ⟨rfl, h⟩; subst h; refine Hid.out ?_)
    refine Lib.hid ?_
    go_wp2_with (go_at_call 98; refine (B2'.out _).mono ?_; rintro e w9 ⟨rfl, h⟩; subst h; refine Hid.out ?_)
    refine Lib.hid ?_
    go_wp2_with (go_at_call 88; refine (KP2.out _).mono ?_; rintro e w10 ⟨rfl, hb10⟩; refine Hid.out ?_)
    have hB10 := Below.chain hB7 hb10; clear hb10 hB7
    refine Lib.hid ?_
    go_wp2_with (go_at_call 164; refine (KS.out _).mono ?_; rintro e w11 ⟨rfl, hb11⟩; refine Hid.out ?_)
    have hB11 := Below.chain hB10 hb11; clear hb11 hB10
    refine Lib.hid ?_
    go_wp2_with (go_at_call 150; refine (KD.out _).mono ?_; rintro e w12 ⟨rfl, hb12⟩; refine Hid.out ?_)
    have hB12 := Below.chain hB11 hb12; clear hb12 hB11
    refine Lib.hid ?_
    go_wp2_with (go_at_call 109; refine (KL0.out _).mono ?_; rintro e w13 ⟨rfl, h⟩; subst h; refine Hid.out ?_)
    refine Lib.hid ?_
    go_wp2_with (go_at_call 109; refine (KL1.out _).mono ?_; rintro e w14 ⟨rfl, h⟩; subst h; refine Hid.out ?_)
    refine Lib.hid ?_
    go_wp2
    refine bodyPost_ret (by simp [results, Tryz.results112, go_sem]; rfl) rfl ?_
    exact ⟨rfl, hB12⟩
  cases f2
  · rw [if_neg (by simp)]
    go_enter Tryz.func112, Tryz.ntmps112
    go_wp2_with (go_at_call 108; refine (KB.out _).mono ?_; rintro e w1 ⟨rfl, hb1⟩; refine Hid.out ?_)
    refine Lib.hid ?_
    go_wp2_with (go_at_call 97; refine (A1'.out _).mono ?_; rintro e w2 ⟨rfl, h⟩; subst h; refine Hid.out ?_)
    refine Lib.hid ?_
    go_wp2_with (go_at_call 98; refine (B2'.out _).mono ?_; rintro e w3 ⟨rfl, h⟩; subst h; refine Hid.out ?_)
    refine Lib.hid ?_
    go_wp2_with (go_at_call 88; refine (KP0.out _).mono ?_; rintro e w4 ⟨rfl, hb4⟩; refine Hid.out ?_)
    have hB4 := Below.chain hb1 hb4; clear hb4 hb1
    refine Lib.hid ?_
    go_wp2_with (go_at_call 97; refine (B1'.out _).mono ?_; rintro e w5 ⟨rfl, h⟩; subst h; refine Hid.out ?_)
    refine Lib.hid ?_
    go_wp2_with (go_at_call 98; refine (A2'.out _).mono ?_; rintro e w6 ⟨rfl, h⟩; subst h; refine Hid.out ?_)
    refine Lib.hid ?_
    go_wp2_with (go_at_call 88; refine (KP1.out _).mono ?_; rintro e w7 ⟨rfl, hb7⟩; refine Hid.out ?_)
    have hB7 := Below.chain hB4 hb7; clear hb7 hB4
    refine Lib.hid ?_
    go_wp2_with (go_at_call 98; refine (A2'.out _).mono ?_; rintro e w8 ⟨rfl, h⟩; subst h; refine Hid.out ?_)
    refine Lib.hid ?_
    go_wp2_with (go_at_call 98; refine (B2'.out _).mono ?_; rintro e w9 ⟨rfl, h⟩; subst h; refine Hid.out ?_)
    refine Lib.hid ?_
    go_wp2_with (go_at_call 88; refine (KP2.out _).mono ?_; rintro e w10 ⟨rfl, hb10⟩; refine Hid.out ?_)
    have hB10 := Below.chain hB7 hb10; clear hb10 hB7
    refine Lib.hid ?_
    go_wp2_with (go_at_call 164; refine (KS.out _).mono ?_; rintro e w11 ⟨rfl, hb11⟩; refine Hid.out ?_)
    have hB11 := Below.chain hB10 hb11; clear hb11 hB10
    refine Lib.hid ?_
    go_wp2_with (go_at_call 150; refine (KD.out _).mono ?_; rintro e w12 ⟨rfl, hb12⟩; refine Hid.out ?_)
    have hB12 := Below.chain hB11 hb12; clear hb12 hB11
    refine Lib.hid ?_
    go_wp2_with (go_at_call 109; refine (KL0.out _).mono ?_; rintro e w13 ⟨rfl, h⟩; subst h; refine Hid.out ?_)
    refine Lib.hid ?_
    go_wp2_with (go_at_call 109; refine (KL1.out _).mono ?_; rintro e w14 ⟨rfl, h⟩; subst h; refine Hid.out ?_)
    refine Lib.hid ?_
    go_wp2_with (go_at_call 109; refine (KL2.out _).mono ?_; rintro e w15 ⟨rfl, h⟩; subst h; refine Hid.out ?_)
    refine Lib.hid ?_
    go_wp2
    refine bodyPost_ret (by simp [results, Tryz.results112, go_sem]; rfl) rfl ?_
    exact ⟨rfl, hB12⟩
  cases f3
  · rw [if_neg (by simp)]
    go_enter Tryz.func112, Tryz.ntmps112
    go_wp2_with (go_at_call 108; refine (KB.out _).mono ?_; rintro e w1 ⟨rfl, hb1⟩; refine Hid.out ?_)
    refine Lib.hid ?_
    go_wp2_with (go_at_call 97; refine (A1'.out _).mono ?_; rintro e w2 ⟨rfl, h⟩; subst h; refine Hid.out ?_)
    refine Lib.hid ?_
    go_wp2_with (go_at_call 98; refine (B2'.out _).mono ?_; rintro e w3 ⟨rfl, h⟩; subst h; refine Hid.out ?_)
    refine Lib.hid ?_
    go_wp2_with (go_at_call 88; refine (KP0.out _).mono ?_; rintro e w4 ⟨rfl, hb4⟩; refine Hid.out ?_)
    have hB4 := Below.chain hb1 hb4; clear hb4 hb1
    refine Lib.hid ?_
    go_wp2_with (go_at_call 97; refine (B1'.out _).mono ?_; rintro e w5 ⟨rfl, h⟩; subst h; refine Hid.out ?_)
    refine Lib.hid ?_
    go_wp2_with (go_at_call 98; refine (A2'.out _).mono ?_; rintro e w6 ⟨rfl, h⟩; subst h; refine Hid.out ?_)
    refine Lib.hid ?_
    go_wp2_with (go_at_call 88; refine (KP1.out _).mono ?_; rintro e w7 ⟨rfl, hb7⟩; refine Hid.out ?_)
    have hB7 := Below.chain hB4 hb7; clear hb7 hB4
    refine Lib.hid ?_
    go_wp2_with (go_at_call 98; refine (A2'.out _).mono ?_; rintro e w8 ⟨rfl, h⟩; subst h; refine Hid.out ?_)
    refine Lib.hid ?_
    go_wp2_with (go_at_call 98; refine (B2'.out _).mono ?_; rintro e w9 ⟨rfl, h⟩; subst h; refine Hid.out ?_)
    refine Lib.hid ?_
    go_wp2_with (go_at_call 88; refine (KP2.out _).mono ?_; rintro e w10 ⟨rfl, hb10⟩; refine Hid.out ?_)
    have hB10 := Below.chain hB7 hb10; clear hb10 hB7
    refine Lib.hid ?_
    go_wp2_with (go_at_call 164; refine (KS.out _).mono ?_; rintro e w11 ⟨rfl, hb11⟩; refine Hid.out ?_)
    have hB11 := Below.chain hB10 hb11; clear hb11 hB10
    refine Lib.hid ?_
    go_wp2_with (go_at_call 150; refine (KD.out _).mono ?_; rintro e w12 ⟨rfl, hb12⟩; refine Hid.out ?_)
    have hB12 := Below.chain hB11 hb12; clear hb12 hB11
    refine Lib.hid ?_
    go_wp2_with (go_at_call 109; refine (KL0.out _).mono ?_; rintro e w13 ⟨rfl, h⟩; subst h; refine Hid.out ?_)
    refine Lib.hid ?_
    go_wp2_with (go_at_call 109; refine (KL1.out _).mono ?_; rintro e w14 ⟨rfl, h⟩; subst h; refine Hid.out ?_)
    refine Lib.hid ?_
    go_wp2_with (go_at_call 109; refine (KL2.out _).mono ?_; rintro e w15 ⟨rfl, h⟩; subst h; refine Hid.out ?_)
    refine Lib.hid ?_
    go_wp2_with (go_at_call 109; refine (KL3.out _).mono ?_; rintro e w16 ⟨rfl, h⟩; subst h; refine Hid.out ?_)
    refine Lib.hid ?_
    go_wp2
    refine bodyPost_ret (by simp [results, Tryz.results112, go_sem]; rfl) rfl ?_
    exact ⟨rfl, hB12⟩
  · rw [if_pos (by simp)]
    go_enter Tryz.func112, Tryz.ntmps112
    go_wp2_with (go_at_call 108; refine (KB.out _).mono ?_; rintro e w1 ⟨rfl, hb1⟩; refine Hid.out ?_)
    refine Lib.hid ?_
    go_wp2_with (go_at_call 97; refine (A1'.out _).mono ?_; rintro e w2 ⟨rfl, h⟩; subst h; refine Hid.out ?_)
    refine Lib.hid ?_
    go_wp2_with (go_at_call 98; refine (B2'.out _).mono ?_; rintro e w3 ⟨rfl, h⟩; subst h; refine Hid.out ?_)
    refine Lib.hid ?_
    go_wp2_with (go_at_call 88; refine (KP0.out _).mono ?_; rintro e w4 ⟨rfl, hb4⟩; refine Hid.out ?_)
    have hB4 := Below.chain hb1 hb4; clear hb4 hb1
    refine Lib.hid ?_
    go_wp2_with (go_at_call 97; refine (B1'.out _).mono ?_; rintro e w5 ⟨rfl, h⟩; subst h; refine Hid.out ?_)
    refine Lib.hid ?_
    go_wp2_with (go_at_call 98; refine (A2'.out _).mono ?_; rintro e w6 ⟨rfl, h⟩; subst h; refine Hid.out ?_)
    refine Lib.hid ?_
    go_wp2_with (go_at_call 88; refine (KP1.out _).mono ?_; rintro e w7 ⟨rfl, hb7⟩; refine Hid.out ?_)
    have hB7 := Below.chain hB4 hb7; clear hb7 hB4
    refine Lib.hid ?_
    go_wp2_with (go_at_call 98; refine (A2'.out _).mono ?_; rintro e w8 ⟨rfl, h⟩; subst h; refine Hid.out ?_)
    refine Lib.hid ?_
    go_wp2_with (go_at_call 98; refine (B2'.out _).mono ?_; rintro e w9 ⟨rfl, h⟩; subst h; refine Hid.out ?_)
    refine Lib.hid ?_
    go_wp2_with (go_at_call 88; refine (KP2.out _).mono ?_; rintro e w10 ⟨rfl, hb10⟩; refine Hid.out ?_)
    have hB10 := Below.chain hB7 hb10; clear hb10 hB7
    refine Lib.hid ?_
    go_wp2_with (go_at_call 164; refine (KS.out _).mono ?_; rintro e w11 ⟨rfl, hb11⟩; refine Hid.out ?_)
    have hB11 := Below.chain hB10 hb11; clear hb11 hB10
    refine Lib.hid ?_
    go_wp2_with (go_at_call 150; refine (KD.out _).mono ?_; rintro e w12 ⟨rfl, hb12⟩; refine Hid.out ?_)
    have hB12 := Below.chain hB11 hb12; clear hb12 hB11
    refine Lib.hid ?_
    go_wp2_with (go_at_call 109; refine (KL0.out _).mono ?_; rintro e w13 ⟨rfl, h⟩; subst h; refine Hid.out ?_)
    refine Lib.hid ?_
    go_wp2_with (go_at_call 109; refine (KL1.out _).mono ?_; rintro e w14 ⟨rfl, h⟩; subst h; refine Hid.out ?_)
    refine Lib.hid ?_
    go_wp2_with (go_at_call 109; refine (KL2.out _).mono ?_; rintro e w15 ⟨rfl, h⟩; subst h; refine Hid.out ?_)
    refine Lib.hid ?_
    go_wp2_with (go_at_call 109; refine (KL3.out _).mono ?_; rintro e w16 ⟨rfl, h⟩; subst h; refine Hid.out ?_)
    refine Lib.hid ?_
    go_wp2_with (go_at_call 105; refine (KF.out _).mono ?_; rintro e w17 ⟨rfl, hb17⟩; refine Hid.out ?_)
    have hB17 := Below.chain hB12 hb17; clear hb17 hB12
    refine Lib.hid ?_
    go_wp2
    refine bodyPost_ret (by simp [results, Tryz.results112, go_sem]; rfl) rfl ?_
    exact ⟨rfl, hB17⟩
set_option maxHeartbeats 1000000 in
theorem refSumA_3 (s t : ByteArray) (w : World)
    (C1 : ∀ W, Calls Tryz.prog 108 #[.string s, .string t] W (Bret (.int .i64 3) W)) :
    Calls Tryz.prog 112 #[.string s, .string t, .bool false] w (Bret (.tuple #[.string ⟨#[]⟩, .int .i64 3]) w) := by
  have K1 := Lib.hid C1; clear C1
  go_enter Tryz.func112, Tryz.ntmps112
  go_wp2_with (go_at_call 108; refine (K1.out _).mono ?_; rintro e w1 ⟨rfl, hb1⟩; refine Hid.out ?_)
  refine Lib.hid ?_
  go_wp2
  refine bodyPost_ret (by simp [results, Tryz.results112, go_sem]; rfl) rfl ?_
  exact ⟨rfl, hb1⟩
set_option maxHeartbeats 1000000 in
theorem refSumA_10 (s t : ByteArray) (w : World)
    (C1 : ∀ W, Calls Tryz.prog 108 #[.string s, .string t] W (Bret (.int .i64 10) W)) :
    Calls Tryz.prog 112 #[.string s, .string t, .bool false] w (Bret (.tuple #[.string ⟨#[]⟩, .int .i64 10]) w) := by
  have K1 := Lib.hid C1; clear C1
  go_enter Tryz.func112, Tryz.ntmps112
  go_wp2_with (go_at_call 108; refine (K1.out _).mono ?_; rintro e w1 ⟨rfl, hb1⟩; refine Hid.out ?_)
  refine Lib.hid ?_
  go_wp2
  refine bodyPost_ret (by simp [results, Tryz.results112, go_sem]; rfl) rfl ?_
  exact ⟨rfl, hb1⟩
set_option maxHeartbeats 1000000 in
theorem refSumB_3 (s t : ByteArray) (w : World)
    (C1 : ∀ W, Calls Tryz.prog 108 #[.string s, .string t] W (Bret (.int .i64 3) W)) :
    Calls Tryz.prog 112 #[.string s, .string t, .bool true] w (Bret (.tuple #[.string ⟨#[]⟩, .int .i64 3]) w) := by
  have K1 := Lib.hid C1; clear C1
  go_enter Tryz.func112, Tryz.ntmps112
  go_wp2_with (go_at_call 108; refine (K1.out _).mono ?_; rintro e w1 ⟨rfl, hb1⟩; refine Hid.out ?_)
  refine Lib.hid ?_
  go_wp2
  refine bodyPost_ret (by simp [results, Tryz.results112, go_sem]; rfl) rfl ?_
  exact ⟨rfl, hb1⟩
set_option maxHeartbeats 1000000 in
theorem refSumB_10 (s t : ByteArray) (w : World)
    (C1 : ∀ W, Calls Tryz.prog 108 #[.string s, .string t] W (Bret (.int .i64 10) W)) :
    Calls Tryz.prog 112 #[.string s, .string t, .bool true] w (Bret (.tuple #[.string ⟨#[]⟩, .int .i64 10]) w) := by
  have K1 := Lib.hid C1; clear C1
  go_enter Tryz.func112, Tryz.ntmps112
  go_wp2_with (go_at_call 108; refine (K1.out _).mono ?_; rintro e w1 ⟨rfl, hb1⟩; refine Hid.out ?_)
  refine Lib.hid ?_
  go_wp2
  refine bodyPost_ret (by simp [results, Tryz.results112, go_sem]; rfl) rfl ?_
  exact ⟨rfl, hb1⟩
theorem refSumAdd_any (s t : ByteArray) (w : World) (hs : s.size ≤ 800000) (ht : t.size ≤ 800000) :
    Calls Tryz.prog 112 #[.string s, .string t, .bool false] w (Bret (ratR2 addQ (bytes s) (bytes t)) w) := by
  unfold ratR2
  have C1 := fun W => refBoth02 s t W hs ht
  rcases rerrBoth_cases (bytes s) (bytes t) with h | h | h
  · rw [if_pos h]
    obtain ⟨h1, h2⟩ := rerrBoth_zero h
    exact refSumAdd s t _ _ w (rstr_of_rerr h1) (rstr_of_rerr h2)
  · rw [if_neg (by omega)]; rw [h] at C1 ⊢; exact refSumA_3 s t w C1
  · rw [if_neg (by omega)]; rw [h] at C1 ⊢; exact refSumA_10 s t w C1
set_option maxHeartbeats 1000000 in
theorem refAdd02 (s t : ByteArray) (w : World) (hs : s.size ≤ 800000) (ht : t.size ≤ 800000) :
    Calls Tryz.prog 44 #[.string s, .string t] w (Bret (ratR2 addQ (bytes s) (bytes t)) w) := by
  have C1 := refSumAdd_any s t w hs ht
  obtain ⟨u, e, hr⟩ := ratR2_addQ_parts (bytes s) (bytes t)
  rw [hr] at C1 ⊢
  have K1 := Lib.hid (fun (_ : Unit) => C1); clear C1 hr hs ht
  go_enter Tryz.func44, Tryz.ntmps44
  go_wp2_with (go_at_call 112; refine (K1.out ()).mono ?_; rintro e w1 ⟨rfl, hb1⟩; refine Hid.out ?_)
  refine Lib.hid ?_
  go_wp2
  refine bodyPost_ret (by simp [results, Tryz.results44, go_sem]; rfl) rfl ?_
  exact ⟨rfl, hb1⟩

theorem refSumSub_any (s t : ByteArray) (w : World) (hs : s.size ≤ 800000) (ht : t.size ≤ 800000) :
    Calls Tryz.prog 112 #[.string s, .string t, .bool true] w (Bret (ratR2 subQ (bytes s) (bytes t)) w) := by
  unfold ratR2
  have C1 := fun W => refBoth02 s t W hs ht
  rcases rerrBoth_cases (bytes s) (bytes t) with h | h | h
  · rw [if_pos h]
    obtain ⟨h1, h2⟩ := rerrBoth_zero h
    exact refSumSub s t _ _ w (rstr_of_rerr h1) (rstr_of_rerr h2)
  · rw [if_neg (by omega)]; rw [h] at C1 ⊢; exact refSumB_3 s t w C1
  · rw [if_neg (by omega)]; rw [h] at C1 ⊢; exact refSumB_10 s t w C1
set_option maxHeartbeats 1000000 in
theorem refSub02 (s t : ByteArray) (w : World) (hs : s.size ≤ 800000) (ht : t.size ≤ 800000) :
    Calls Tryz.prog 46 #[.string s, .string t] w (Bret (ratR2 subQ (bytes s) (bytes t)) w) := by
  have C1 := refSumSub_any s t w hs ht
  obtain ⟨u, e, hr⟩ := ratR2_subQ_parts (bytes s) (bytes t)
  rw [hr] at C1 ⊢
  have K1 := Lib.hid (fun (_ : Unit) => C1); clear C1 hr hs ht
  go_enter Tryz.func46, Tryz.ntmps46
  go_wp2_with (go_at_call 112; refine (K1.out ()).mono ?_; rintro e w1 ⟨rfl, hb1⟩; refine Hid.out ?_)
  refine Lib.hid ?_
  go_wp2
  refine bodyPost_ret (by simp [results, Tryz.results46, go_sem]; rfl) rfl ?_
  exact ⟨rfl, hb1⟩

set_option maxHeartbeats 8000000 in
theorem refMulS (s t : ByteArray) (p q : Rat) (w : World) (hs : RStr s p) (ht : RStr t q) :
    Calls Tryz.prog 48 #[.string s, .string t] w (Bret (opQ (mulF p q) (p * q)) w) := by
  have A1 := fun W => topS W hs; have A2 := fun W => botS W hs; have B1 := fun W => topS W ht; have B2 := fun W => botS W ht
  have tn := hs.rs.num.txt; have td := hs.rs.den.txt; have un := ht.rs.num.txt; have ud := ht.rs.den.txt
  have CB := fun W => refBoth02 s t W (by have := hs.size; omega) (by have := ht.size; omega)
  rw [show rerrBoth (bytes s) (bytes t) = 0 by unfold rerrBoth; rw [hs.rerr, if_pos rfl, ht.rerr]] at CB
  have P0 := fun W => prodT W tn un (by decide) (by decide)
  have P1 := fun W => prodT W td ud (by decide) (by decide)
  have x0 := txt_prod tn un; have x1 := txt_prod td ud
  have L0 := fun W => largeT W x0 (by decide); have L1 := fun W => largeT W x1 (by decide)
  have FR := fun W => fracT W x0 x1 (by decide) (by decide) (den_mul_ne p q)
  rw [divInt_mul p q] at FR
  unfold opQ mulF
  clear tn td un ud x0 x1 hs ht
  generalize str (ratL (p * q)) = r at *
  generalize p.num * q.num = x at *
  generalize (p.den : Int) * (q.den : Int) = y at *
  generalize str (Lib.itoa p.num) = a1 at *
  generalize str (Lib.itoa (p.den : Int)) = a2 at *
  generalize str (Lib.itoa q.num) = b1 at *
  generalize str (Lib.itoa (q.den : Int)) = b2 at *
  generalize decide (Fits x) = f0 at *
  generalize decide (Fits y) = f1 at *
  generalize str (Lib.itoa x) = sx at *
  generalize str (Lib.itoa y) = sy at *
  have KB := Lib.hid CB; have KP0 := Lib.hid P0; have KP1 := Lib.hid P1; have KF := Lib.hid FR; have KL0 := Lib.hid L0; have KL1 := Lib.hid L1
  clear CB P0 P1 FR L0 L1
  have A1' := Lib.hid A1; have A2' := Lib.hid A2; have B1' := Lib.hid B1; have B2' := Lib.hid B2; clear A1 A2 B1 B2
  unfold errV
  cases f0
  · rw [if_neg (by simp)]
    go_enter Tryz.func48, Tryz.ntmps48
    go_wp2_with (go_at_call 108; refine (KB.out _).mono ?_; rintro e w1 ⟨rfl, hb1⟩; refine Hid.out ?_)
    refine Lib.hid ?_
    go_wp2_with (go_at_call 97; refine (A1'.out _).mono ?_; rintro e w2 ⟨rfl, h⟩; subst h; refine Hid.out ?_)
    refine Lib.hid ?_
    go_wp2_with (go_at_call 97; refine (B1'.out _).mono ?_; rintro e w3 ⟨rfl, h⟩; subst h; refine Hid.out ?_)
    refine Lib.hid ?_
    go_wp2_with (go_at_call 88; refine (KP0.out _).mono ?_; rintro e w4 ⟨rfl, hb4⟩; refine Hid.out ?_)
    have hB4 := Below.chain hb1 hb4; clear hb4 hb1
    refine Lib.hid ?_
    go_wp2_with (go_at_call 98; refine (A2'.out _).mono ?_; rintro e w5 ⟨rfl, h⟩; subst h; refine Hid.out ?_)
    refine Lib.hid ?_
    go_wp2_with (go_at_call 98; refine (B2'.out _).mono ?_; rintro e w6 ⟨rfl, h⟩; subst h; refine Hid.out ?_)
    refine Lib.hid ?_
    go_wp2_with (go_at_call 88; refine (KP1.out _).mono ?_; rintro e w7 ⟨rfl, hb7⟩; refine Hid.out ?_)
    have hB7 := Below.chain hB4 hb7; clear hb7 hB4
    refine Lib.hid ?_
    go_wp2_with (go_at_call 109; refine (KL0.out _).mono ?_; rintro e w8 ⟨rfl, h⟩; subst h; refine Hid.out ?_)
    refine Lib.hid ?_
    go_wp2
    refine bodyPost_ret (by simp [results, Tryz.results48, go_sem]; rfl) rfl ?_
    exact ⟨rfl, hB7⟩
  cases f1
  · rw [if_neg (by simp)]
    go_enter Tryz.func48, Tryz.ntmps48
    go_wp2_with (go_at_call 108; refine (KB.out _).mono ?_; rintro e w1 ⟨rfl, hb1⟩; refine Hid.out ?_)
    refine Lib.hid ?_
    go_wp2_with (go_at_call 97; refine (A1'.out _).mono ?_; rintro e w2 ⟨rfl, h⟩; subst h; refine Hid.out ?_)
    refine Lib.hid ?_
    go_wp2_with (go_at_call 97; refine (B1'.out _).mono ?_; rintro e w3 ⟨rfl, h⟩; subst h; refine Hid.out ?_)
    refine Lib.hid ?_
    go_wp2_with (go_at_call 88; refine (KP0.out _).mono ?_; rintro e w4 ⟨rfl, hb4⟩; refine Hid.out ?_)
    have hB4 := Below.chain hb1 hb4; clear hb4 hb1
    refine Lib.hid ?_
    go_wp2_with (go_at_call 98; refine (A2'.out _).mono ?_; rintro e w5 ⟨rfl, h⟩; subst h; refine Hid.out ?_)
    refine Lib.hid ?_
    go_wp2_with (go_at_call 98; refine (B2'.out _).mono ?_; rintro e w6 ⟨rfl, h⟩; subst h; refine Hid.out ?_)
    refine Lib.hid ?_
    go_wp2_with (go_at_call 88; refine (KP1.out _).mono ?_; rintro e w7 ⟨rfl, hb7⟩; refine Hid.out ?_)
    have hB7 := Below.chain hB4 hb7; clear hb7 hB4
    refine Lib.hid ?_
    go_wp2_with (go_at_call 109; refine (KL0.out _).mono ?_; rintro e w8 ⟨rfl, h⟩; subst h; refine Hid.out ?_)
    refine Lib.hid ?_
    go_wp2_with (go_at_call 109; refine (KL1.out _).mono ?_; rintro e w9 ⟨rfl, h⟩; subst h; refine Hid.out ?_)
    refine Lib.hid ?_
    go_wp2
    refine bodyPost_ret (by simp [results, Tryz.results48, go_sem]; rfl) rfl ?_
    exact ⟨rfl, hB7⟩
  · rw [if_pos (by simp)]
    go_enter Tryz.func48, Tryz.ntmps48
    go_wp2_with (go_at_call 108; refine (KB.out _).mono ?_; rintro e w1 ⟨rfl, hb1⟩; refine Hid.out ?_)
    refine Lib.hid ?_
    go_wp2_with (go_at_call 97; refine (A1'.out _).mono ?_; rintro e w2 ⟨rfl, h⟩; subst h; refine Hid.out ?_)
    refine Lib.hid ?_
    go_wp2_with (go_at_call 97; refine (B1'.out _).mono ?_; rintro e w3 ⟨rfl, h⟩; subst h; refine Hid.out ?_)
    refine Lib.hid ?_
    go_wp2_with (go_at_call 88; refine (KP0.out _).mono ?_; rintro e w4 ⟨rfl, hb4⟩; refine Hid.out ?_)
    have hB4 := Below.chain hb1 hb4; clear hb4 hb1
    refine Lib.hid ?_
    go_wp2_with (go_at_call 98; refine (A2'.out _).mono ?_; rintro e w5 ⟨rfl, h⟩; subst h; refine Hid.out ?_)
    refine Lib.hid ?_
    go_wp2_with (go_at_call 98; refine (B2'.out _).mono ?_; rintro e w6 ⟨rfl, h⟩; subst h; refine Hid.out ?_)
    refine Lib.hid ?_
    go_wp2_with (go_at_call 88; refine (KP1.out _).mono ?_; rintro e w7 ⟨rfl, hb7⟩; refine Hid.out ?_)
    have hB7 := Below.chain hB4 hb7; clear hb7 hB4
    refine Lib.hid ?_
    go_wp2_with (go_at_call 109; refine (KL0.out _).mono ?_; rintro e w8 ⟨rfl, h⟩; subst h; refine Hid.out ?_)
    refine Lib.hid ?_
    go_wp2_with (go_at_call 109; refine (KL1.out _).mono ?_; rintro e w9 ⟨rfl, h⟩; subst h; refine Hid.out ?_)
    refine Lib.hid ?_
    go_wp2_with (go_at_call 105; refine (KF.out _).mono ?_; rintro e w10 ⟨rfl, hb10⟩; refine Hid.out ?_)
    have hB10 := Below.chain hB7 hb10; clear hb10 hB7
    refine Lib.hid ?_
    go_wp2
    refine bodyPost_ret (by simp [results, Tryz.results48, go_sem]; rfl) rfl ?_
    exact ⟨rfl, hB10⟩
set_option maxHeartbeats 8000000 in
theorem refDivS (s t : ByteArray) (p q : Rat) (w : World) (hs : RStr s p) (ht : RStr t q) (h0 : q ≠ 0) :
    Calls Tryz.prog 50 #[.string s, .string t] w (Bret (opQ (divF p q) (p / q)) w) := by
  have A1 := fun W => topS W hs; have A2 := fun W => botS W hs; have B1 := fun W => topS W ht; have B2 := fun W => botS W ht
  have tn := hs.rs.num.txt; have td := hs.rs.den.txt; have un := ht.rs.num.txt; have ud := ht.rs.den.txt
  have CB := fun W => refBoth02 s t W (by have := hs.size; omega) (by have := ht.size; omega)
  rw [show rerrBoth (bytes s) (bytes t) = 0 by unfold rerrBoth; rw [hs.rerr, if_pos rfl, ht.rerr]] at CB
  have P0 := fun W => prodT W tn ud (by decide) (by decide)
  have P1 := fun W => prodT W td un (by decide) (by decide)
  have x0 := txt_prod tn ud; have x1 := txt_prod td un
  have L0 := fun W => largeT W x0 (by decide); have L1 := fun W => largeT W x1 (by decide)
  have FR := fun W => fracT W x0 x1 (by decide) (by decide) (Int.mul_ne_zero (den_ne p) (num_ne h0))
  rw [divInt_div p q] at FR
  have hne := rstr_ne ht h0
  unfold opQ divF
  clear tn td un ud x0 x1 hs ht h0
  generalize str (ratL (p / q)) = r at *
  generalize p.num * (q.den : Int) = x at *
  generalize (p.den : Int) * q.num = y at *
  generalize str (Lib.itoa p.num) = a1 at *
  generalize str (Lib.itoa (p.den : Int)) = a2 at *
  generalize str (Lib.itoa q.num) = b1 at *
  generalize str (Lib.itoa (q.den : Int)) = b2 at *
  generalize decide (Fits x) = f0 at *
  generalize decide (Fits y) = f1 at *
  generalize str (Lib.itoa x) = sx at *
  generalize str (Lib.itoa y) = sy at *
  have KB := Lib.hid CB; have KP0 := Lib.hid P0; have KP1 := Lib.hid P1; have KF := Lib.hid FR; have KL0 := Lib.hid L0; have KL1 := Lib.hid L1
  clear CB P0 P1 FR L0 L1
  have A1' := Lib.hid A1; have A2' := Lib.hid A2; have B1' := Lib.hid B1; have B2' := Lib.hid B2; clear A1 A2 B1 B2
  unfold errV
  cases f0
  · rw [if_neg (by simp)]
    go_enter Tryz.func50, Tryz.ntmps50
    go_wp2_with (go_at_call 108; refine (KB.out _).mono ?_; rintro e w1 ⟨rfl, hb1⟩; refine Hid.out ?_)
    refine Lib.hid ?_
    go_wp2_with (go_at_call 97; refine (A1'.out _).mono ?_; rintro e w2 ⟨rfl, h⟩; subst h; refine Hid.out ?_)
    refine Lib.hid ?_
    go_wp2_with (go_at_call 98; refine (B2'.out _).mono ?_; rintro e w3 ⟨rfl, h⟩; subst h; refine Hid.out ?_)
    refine Lib.hid ?_
    go_wp2_with (go_at_call 88; refine (KP0.out _).mono ?_; rintro e w4 ⟨rfl, hb4⟩; refine Hid.out ?_)
    have hB4 := Below.chain hb1 hb4; clear hb4 hb1
    refine Lib.hid ?_
    go_wp2_with (go_at_call 98; refine (A2'.out _).mono ?_; rintro e w5 ⟨rfl, h⟩; subst h; refine Hid.out ?_)
    refine Lib.hid ?_
    go_wp2_with (go_at_call 97; refine (B1'.out _).mono ?_; rintro e w6 ⟨rfl, h⟩; subst h; refine Hid.out ?_)
    refine Lib.hid ?_
    go_wp2_with (go_at_call 88; refine (KP1.out _).mono ?_; rintro e w7 ⟨rfl, hb7⟩; refine Hid.out ?_)
    have hB7 := Below.chain hB4 hb7; clear hb7 hB4
    refine Lib.hid ?_
    go_wp2_with (go_at_call 109; refine (KL0.out _).mono ?_; rintro e w8 ⟨rfl, h⟩; subst h; refine Hid.out ?_)
    refine Lib.hid ?_
    go_wp2
    refine bodyPost_ret (by simp [results, Tryz.results50, go_sem]; rfl) rfl ?_
    exact ⟨rfl, hB7⟩
  cases f1
  · rw [if_neg (by simp)]
    go_enter Tryz.func50, Tryz.ntmps50
    go_wp2_with (go_at_call 108; refine (KB.out _).mono ?_; rintro e w1 ⟨rfl, hb1⟩; refine Hid.out ?_)
    refine Lib.hid ?_
    go_wp2_with (go_at_call 97; refine (A1'.out _).mono ?_; rintro e w2 ⟨rfl, h⟩; subst h; refine Hid.out ?_)
    refine Lib.hid ?_
    go_wp2_with (go_at_call 98; refine (B2'.out _).mono ?_; rintro e w3 ⟨rfl, h⟩; subst h; refine Hid.out ?_)
    refine Lib.hid ?_
    go_wp2_with (go_at_call 88; refine (KP0.out _).mono ?_; rintro e w4 ⟨rfl, hb4⟩; refine Hid.out ?_)
    have hB4 := Below.chain hb1 hb4; clear hb4 hb1
    refine Lib.hid ?_
    go_wp2_with (go_at_call 98; refine (A2'.out _).mono ?_; rintro e w5 ⟨rfl, h⟩; subst h; refine Hid.out ?_)
    refine Lib.hid ?_
    go_wp2_with (go_at_call 97; refine (B1'.out _).mono ?_; rintro e w6 ⟨rfl, h⟩; subst h; refine Hid.out ?_)
    refine Lib.hid ?_
    go_wp2_with (go_at_call 88; refine (KP1.out _).mono ?_; rintro e w7 ⟨rfl, hb7⟩; refine Hid.out ?_)
    have hB7 := Below.chain hB4 hb7; clear hb7 hB4
    refine Lib.hid ?_
    go_wp2_with (go_at_call 109; refine (KL0.out _).mono ?_; rintro e w8 ⟨rfl, h⟩; subst h; refine Hid.out ?_)
    refine Lib.hid ?_
    go_wp2_with (go_at_call 109; refine (KL1.out _).mono ?_; rintro e w9 ⟨rfl, h⟩; subst h; refine Hid.out ?_)
    refine Lib.hid ?_
    go_wp2
    refine bodyPost_ret (by simp [results, Tryz.results50, go_sem]; rfl) rfl ?_
    exact ⟨rfl, hB7⟩
  · rw [if_pos (by simp)]
    go_enter Tryz.func50, Tryz.ntmps50
    go_wp2_with (go_at_call 108; refine (KB.out _).mono ?_; rintro e w1 ⟨rfl, hb1⟩; refine Hid.out ?_)
    refine Lib.hid ?_
    go_wp2_with (go_at_call 97; refine (A1'.out _).mono ?_; rintro e w2 ⟨rfl, h⟩; subst h; refine Hid.out ?_)
    refine Lib.hid ?_
    go_wp2_with (go_at_call 98; refine (B2'.out _).mono ?_; rintro e w3 ⟨rfl, h⟩; subst h; refine Hid.out ?_)
    refine Lib.hid ?_
    go_wp2_with (go_at_call 88; refine (KP0.out _).mono ?_; rintro e w4 ⟨rfl, hb4⟩; refine Hid.out ?_)
    have hB4 := Below.chain hb1 hb4; clear hb4 hb1
    refine Lib.hid ?_
    go_wp2_with (go_at_call 98; refine (A2'.out _).mono ?_; rintro e w5 ⟨rfl, h⟩; subst h; refine Hid.out ?_)
    refine Lib.hid ?_
    go_wp2_with (go_at_call 97; refine (B1'.out _).mono ?_; rintro e w6 ⟨rfl, h⟩; subst h; refine Hid.out ?_)
    refine Lib.hid ?_
    go_wp2_with (go_at_call 88; refine (KP1.out _).mono ?_; rintro e w7 ⟨rfl, hb7⟩; refine Hid.out ?_)
    have hB7 := Below.chain hB4 hb7; clear hb7 hB4
    refine Lib.hid ?_
    go_wp2_with (go_at_call 109; refine (KL0.out _).mono ?_; rintro e w8 ⟨rfl, h⟩; subst h; refine Hid.out ?_)
    refine Lib.hid ?_
    go_wp2_with (go_at_call 109; refine (KL1.out _).mono ?_; rintro e w9 ⟨rfl, h⟩; subst h; refine Hid.out ?_)
    refine Lib.hid ?_
    go_wp2_with (go_at_call 105; refine (KF.out _).mono ?_; rintro e w10 ⟨rfl, hb10⟩; refine Hid.out ?_)
    have hB10 := Below.chain hB7 hb10; clear hb10 hB7
    refine Lib.hid ?_
    go_wp2
    refine bodyPost_ret (by simp [results, Tryz.results50, go_sem]; rfl) rfl ?_
    exact ⟨rfl, hB10⟩
set_option maxHeartbeats 1000000 in
theorem refMul_e_3 (s t : ByteArray) (w : World)
    (C1 : ∀ W, Calls Tryz.prog 108 #[.string s, .string t] W (Bret (.int .i64 3) W)) :
    Calls Tryz.prog 48 #[.string s, .string t] w (Bret (.tuple #[.string ⟨#[]⟩, .int .i64 3]) w) := by
  have K1 := Lib.hid C1; clear C1
  go_enter Tryz.func48, Tryz.ntmps48
  go_wp2_with (go_at_call 108; refine (K1.out _).mono ?_; rintro e w1 ⟨rfl, hb1⟩; refine Hid.out ?_)
  refine Lib.hid ?_
  go_wp2
  refine bodyPost_ret (by simp [results, Tryz.results48, go_sem]; rfl) rfl ?_
  exact ⟨rfl, hb1⟩
set_option maxHeartbeats 1000000 in
theorem refMul_e_10 (s t : ByteArray) (w : World)
    (C1 : ∀ W, Calls Tryz.prog 108 #[.string s, .string t] W (Bret (.int .i64 10) W)) :
    Calls Tryz.prog 48 #[.string s, .string t] w (Bret (.tuple #[.string ⟨#[]⟩, .int .i64 10]) w) := by
  have K1 := Lib.hid C1; clear C1
  go_enter Tryz.func48, Tryz.ntmps48
  go_wp2_with (go_at_call 108; refine (K1.out _).mono ?_; rintro e w1 ⟨rfl, hb1⟩; refine Hid.out ?_)
  refine Lib.hid ?_
  go_wp2
  refine bodyPost_ret (by simp [results, Tryz.results48, go_sem]; rfl) rfl ?_
  exact ⟨rfl, hb1⟩
set_option maxHeartbeats 1000000 in
theorem refDiv_e_3 (s t : ByteArray) (w : World)
    (C1 : ∀ W, Calls Tryz.prog 108 #[.string s, .string t] W (Bret (.int .i64 3) W)) :
    Calls Tryz.prog 50 #[.string s, .string t] w (Bret (.tuple #[.string ⟨#[]⟩, .int .i64 3]) w) := by
  have K1 := Lib.hid C1; clear C1
  go_enter Tryz.func50, Tryz.ntmps50
  go_wp2_with (go_at_call 108; refine (K1.out _).mono ?_; rintro e w1 ⟨rfl, hb1⟩; refine Hid.out ?_)
  refine Lib.hid ?_
  go_wp2
  refine bodyPost_ret (by simp [results, Tryz.results50, go_sem]; rfl) rfl ?_
  exact ⟨rfl, hb1⟩
set_option maxHeartbeats 1000000 in
theorem refDiv_e_10 (s t : ByteArray) (w : World)
    (C1 : ∀ W, Calls Tryz.prog 108 #[.string s, .string t] W (Bret (.int .i64 10) W)) :
    Calls Tryz.prog 50 #[.string s, .string t] w (Bret (.tuple #[.string ⟨#[]⟩, .int .i64 10]) w) := by
  have K1 := Lib.hid C1; clear C1
  go_enter Tryz.func50, Tryz.ntmps50
  go_wp2_with (go_at_call 108; refine (K1.out _).mono ?_; rintro e w1 ⟨rfl, hb1⟩; refine Hid.out ?_)
  refine Lib.hid ?_
  go_wp2
  refine bodyPost_ret (by simp [results, Tryz.results50, go_sem]; rfl) rfl ?_
  exact ⟨rfl, hb1⟩
set_option maxHeartbeats 1000000 in
theorem refDivS_zero (s : ByteArray) (p : Rat) (w : World) (hs : RStr s p) :
    Calls Tryz.prog 50 #[.string s, .string ⟨#[48]⟩] w (Bret (errV 19) w) := by
  have CB := fun W => refBoth02 s ⟨#[48]⟩ W (by have := hs.size; omega) (by decide)
  rw [show rerrBoth (bytes s) (bytes ⟨#[48]⟩) = 0 by unfold rerrBoth; rw [hs.rerr, if_pos rfl, zero_rstr.rerr]] at CB
  unfold errV
  have KB := Lib.hid CB; clear CB hs
  go_enter Tryz.func50, Tryz.ntmps50
  go_wp2_with (go_at_call 108; refine (KB.out _).mono ?_; rintro e w1 ⟨rfl, hb1⟩; refine Hid.out ?_)
  refine Lib.hid ?_
  go_wp2
  refine bodyPost_ret (by simp [results, Tryz.results50, go_sem]; rfl) rfl ?_
  exact ⟨rfl, hb1⟩
theorem refMul02 (s t : ByteArray) (w : World) (hs : s.size ≤ 800000) (ht : t.size ≤ 800000) :
    Calls Tryz.prog 48 #[.string s, .string t] w (Bret (ratR2 mulQ (bytes s) (bytes t)) w) := by
  unfold ratR2
  have C1 := fun W => refBoth02 s t W hs ht
  rcases rerrBoth_cases (bytes s) (bytes t) with h | h | h
  · rw [if_pos h]
    obtain ⟨h1, h2⟩ := rerrBoth_zero h
    exact refMulS s t _ _ w (rstr_of_rerr h1) (rstr_of_rerr h2)
  · rw [if_neg (by omega)]; rw [h] at C1 ⊢; exact refMul_e_3 s t w C1
  · rw [if_neg (by omega)]; rw [h] at C1 ⊢; exact refMul_e_10 s t w C1

theorem refDiv02 (s t : ByteArray) (w : World) (hs : s.size ≤ 800000) (ht : t.size ≤ 800000) :
    Calls Tryz.prog 50 #[.string s, .string t] w (Bret (ratR2 divQ (bytes s) (bytes t)) w) := by
  unfold ratR2
  have C1 := fun W => refBoth02 s t W hs ht
  rcases rerrBoth_cases (bytes s) (bytes t) with h | h | h
  · rw [if_pos h]
    obtain ⟨h1, h2⟩ := rerrBoth_zero h
    have b1 := rstr_of_rerr h2
    unfold divQ
    by_cases hz : ratV (bytes t) = 0
    · rw [if_pos hz]
      obtain rfl := rstr_zero (hz ▸ b1)
      exact refDivS_zero s _ w (rstr_of_rerr h1)
    · rw [if_neg hz]
      exact refDivS s t _ _ w (rstr_of_rerr h1) b1 hz
  · rw [if_neg (by omega)]; rw [h] at C1 ⊢; exact refDiv_e_3 s t w C1
  · rw [if_neg (by omega)]; rw [h] at C1 ⊢; exact refDiv_e_10 s t w C1

set_option maxHeartbeats 2000000 in
theorem refNumQ (s : ByteArray) (p : Rat) (w : World) (hs : RStr s p) :
    Calls Tryz.prog 32 #[.string s] w (Bret (numQ p) w) := by
  have C1 := fun W => refCheck02 s W (by have := hs.size; omega)
  rw [hs.rerr] at C1
  have C2 := fun W => topS W hs
  unfold numQ
  generalize str (Lib.itoa p.num) = r at *
  have K1 := Lib.hid C1; have K2 := Lib.hid C2
  clear C1 C2 hs
  go_enter Tryz.func32, Tryz.ntmps32
  go_wp2_with (go_at_call 38; refine (K1.out _).mono ?_; rintro e w1 ⟨rfl, hb1⟩; refine Hid.out ?_)
  refine Lib.hid ?_
  go_wp2_with (go_at_call 97; refine (K2.out _).mono ?_; rintro e w2 ⟨rfl, h⟩; subst h; refine Hid.out ?_)
  refine Lib.hid ?_
  go_wp2
  refine bodyPost_ret (by simp [results, Tryz.results32, go_sem]; rfl) rfl ?_
  exact ⟨rfl, hb1⟩
set_option maxHeartbeats 1000000 in
theorem refNum_e_3 (s : ByteArray) (w : World)
    (C1 : ∀ W, Calls Tryz.prog 38 #[.string s] W (Bret (.int .i64 3) W)) :
    Calls Tryz.prog 32 #[.string s] w (Bret (.tuple #[.string ⟨#[]⟩, .int .i64 3]) w) := by
  have K1 := Lib.hid C1; clear C1
  go_enter Tryz.func32, Tryz.ntmps32
  go_wp2_with (go_at_call 38; refine (K1.out _).mono ?_; rintro e w1 ⟨rfl, hb1⟩; refine Hid.out ?_)
  refine Lib.hid ?_
  go_wp2
  refine bodyPost_ret (by simp [results, Tryz.results32, go_sem]; rfl) rfl ?_
  exact ⟨rfl, hb1⟩
set_option maxHeartbeats 1000000 in
theorem refNum_e_10 (s : ByteArray) (w : World)
    (C1 : ∀ W, Calls Tryz.prog 38 #[.string s] W (Bret (.int .i64 10) W)) :
    Calls Tryz.prog 32 #[.string s] w (Bret (.tuple #[.string ⟨#[]⟩, .int .i64 10]) w) := by
  have K1 := Lib.hid C1; clear C1
  go_enter Tryz.func32, Tryz.ntmps32
  go_wp2_with (go_at_call 38; refine (K1.out _).mono ?_; rintro e w1 ⟨rfl, hb1⟩; refine Hid.out ?_)
  refine Lib.hid ?_
  go_wp2
  refine bodyPost_ret (by simp [results, Tryz.results32, go_sem]; rfl) rfl ?_
  exact ⟨rfl, hb1⟩
theorem refNum02 (s : ByteArray) (w : World) (hs : s.size ≤ 800000) :
    Calls Tryz.prog 32 #[.string s] w (Bret (ratR1 numQ (bytes s)) w) := by
  unfold ratR1
  have C1 := fun W => refCheck02 s W hs
  rcases rerr_cases (bytes s) with h | h | h
  · rw [if_pos h]; exact refNumQ s _ w (rstr_of_rerr h)
  · rw [if_neg (by omega)]; rw [h] at C1 ⊢; exact refNum_e_3 s w C1
  · rw [if_neg (by omega)]; rw [h] at C1 ⊢; exact refNum_e_10 s w C1

set_option maxHeartbeats 2000000 in
theorem refDenQ (s : ByteArray) (p : Rat) (w : World) (hs : RStr s p) :
    Calls Tryz.prog 33 #[.string s] w (Bret (denQ p) w) := by
  have C1 := fun W => refCheck02 s W (by have := hs.size; omega)
  rw [hs.rerr] at C1
  have C2 := fun W => botS W hs
  unfold denQ
  generalize str (Lib.itoa (p.den : Int)) = r at *
  have K1 := Lib.hid C1; have K2 := Lib.hid C2
  clear C1 C2 hs
  go_enter Tryz.func33, Tryz.ntmps33
  go_wp2_with (go_at_call 38; refine (K1.out _).mono ?_; rintro e w1 ⟨rfl, hb1⟩; refine Hid.out ?_)
  refine Lib.hid ?_
  go_wp2_with (go_at_call 98; refine (K2.out _).mono ?_; rintro e w2 ⟨rfl, h⟩; subst h; refine Hid.out ?_)
  refine Lib.hid ?_
  go_wp2
  refine bodyPost_ret (by simp [results, Tryz.results33, go_sem]; rfl) rfl ?_
  exact ⟨rfl, hb1⟩
set_option maxHeartbeats 1000000 in
theorem refDen_e_3 (s : ByteArray) (w : World)
    (C1 : ∀ W, Calls Tryz.prog 38 #[.string s] W (Bret (.int .i64 3) W)) :
    Calls Tryz.prog 33 #[.string s] w (Bret (.tuple #[.string ⟨#[]⟩, .int .i64 3]) w) := by
  have K1 := Lib.hid C1; clear C1
  go_enter Tryz.func33, Tryz.ntmps33
  go_wp2_with (go_at_call 38; refine (K1.out _).mono ?_; rintro e w1 ⟨rfl, hb1⟩; refine Hid.out ?_)
  refine Lib.hid ?_
  go_wp2
  refine bodyPost_ret (by simp [results, Tryz.results33, go_sem]; rfl) rfl ?_
  exact ⟨rfl, hb1⟩
set_option maxHeartbeats 1000000 in
theorem refDen_e_10 (s : ByteArray) (w : World)
    (C1 : ∀ W, Calls Tryz.prog 38 #[.string s] W (Bret (.int .i64 10) W)) :
    Calls Tryz.prog 33 #[.string s] w (Bret (.tuple #[.string ⟨#[]⟩, .int .i64 10]) w) := by
  have K1 := Lib.hid C1; clear C1
  go_enter Tryz.func33, Tryz.ntmps33
  go_wp2_with (go_at_call 38; refine (K1.out _).mono ?_; rintro e w1 ⟨rfl, hb1⟩; refine Hid.out ?_)
  refine Lib.hid ?_
  go_wp2
  refine bodyPost_ret (by simp [results, Tryz.results33, go_sem]; rfl) rfl ?_
  exact ⟨rfl, hb1⟩
theorem refDen02 (s : ByteArray) (w : World) (hs : s.size ≤ 800000) :
    Calls Tryz.prog 33 #[.string s] w (Bret (ratR1 denQ (bytes s)) w) := by
  unfold ratR1
  have C1 := fun W => refCheck02 s W hs
  rcases rerr_cases (bytes s) with h | h | h
  · rw [if_pos h]; exact refDenQ s _ w (rstr_of_rerr h)
  · rw [if_neg (by omega)]; rw [h] at C1 ⊢; exact refDen_e_3 s w C1
  · rw [if_neg (by omega)]; rw [h] at C1 ⊢; exact refDen_e_10 s w C1

set_option maxHeartbeats 1000000 in
theorem refDown (s : ByteArray) (p : Rat) (w : World) (hs : RStr s p) : Calls Tryz.prog 100 #[.string s] w (Bret (.string (str (Lib.itoa p.floor))) w) := by
  have C1 := fun W => topS W hs; have C2 := fun W => botS W hs
  have C3 := fun W => fdivT W hs.rs.num.txt hs.rs.den.txt (by decide) (by decide) (den_ne p)
  rw [fdiv_floor] at C3
  generalize str (Lib.itoa p.floor) = r at *
  generalize str (Lib.itoa p.num) = a1 at *
  generalize str (Lib.itoa (p.den : Int)) = a2 at *
  have K1 := Lib.hid C1; have K2 := Lib.hid C2; have K3 := Lib.hid C3
  clear C1 C2 C3 hs
  go_enter Tryz.func100, Tryz.ntmps100
  go_wp2_with (go_at_call 97; refine (K1.out _).mono ?_; rintro e w1 ⟨rfl, h⟩; subst h; refine Hid.out ?_)
  refine Lib.hid ?_
  go_wp2_with (go_at_call 98; refine (K2.out _).mono ?_; rintro e w2 ⟨rfl, h⟩; subst h; refine Hid.out ?_)
  refine Lib.hid ?_
  go_wp2_with (go_at_call 89; refine (K3.out _).mono ?_; rintro e w3 ⟨rfl, hb3⟩; refine Hid.out ?_)
  refine Lib.hid ?_
  go_wp2
  refine bodyPost_ret (v := .string r) (by simp [results, Tryz.results100, go_sem]) rfl ?_
  exact ⟨rfl, hb3⟩
set_option maxHeartbeats 1000000 in
theorem refUp (s : ByteArray) (p : Rat) (w : World) (hs : RStr s p) : Calls Tryz.prog 101 #[.string s] w (Bret (.string (str (Lib.itoa p.ceil))) w) := by
  have C1 := fun W => topS W hs; have C2 := fun W => botS W hs
  have tn := txt_neg' hs.rs.num.txt
  have C3 := fun W => negT W hs.rs.num.txt (by decide)
  have C4 := fun W => fdivT W tn hs.rs.den.txt (by decide) (by decide) (den_ne p)
  have tq := txt_fdiv (y := (p.den : Int)) tn (den_ne p)
  have C5 := fun W => negT W tq (by decide)
  rw [fdiv_ceil] at C5
  generalize str (Lib.itoa p.ceil) = r at *
  generalize str (Lib.itoa ((-p.num).fdiv p.den)) = a4 at *
  generalize str (Lib.itoa (-p.num)) = a3 at *
  generalize str (Lib.itoa p.num) = a1 at *
  generalize str (Lib.itoa (p.den : Int)) = a2 at *
  have K1 := Lib.hid C1; have K2 := Lib.hid C2; have K3 := Lib.hid C3; have K4 := Lib.hid C4; have K5 := Lib.hid C5
  clear C1 C2 C3 C4 C5 hs tn tq
  go_enter Tryz.func101, Tryz.ntmps101
  go_wp2_with (go_at_call 97; refine (K1.out _).mono ?_; rintro e w1 ⟨rfl, h⟩; subst h; refine Hid.out ?_)
  refine Lib.hid ?_
  go_wp2_with (go_at_call 161; refine (K3.out _).mono ?_; rintro e w2 ⟨rfl, h⟩; subst h; refine Hid.out ?_)
  refine Lib.hid ?_
  go_wp2_with (go_at_call 98; refine (K2.out _).mono ?_; rintro e w3 ⟨rfl, h⟩; subst h; refine Hid.out ?_)
  refine Lib.hid ?_
  go_wp2_with (go_at_call 89; refine (K4.out _).mono ?_; rintro e w4 ⟨rfl, hb4⟩; refine Hid.out ?_)
  refine Lib.hid ?_
  go_wp2_with (go_at_call 161; refine (K5.out _).mono ?_; rintro e w5 ⟨rfl, h⟩; subst h; refine Hid.out ?_)
  refine Lib.hid ?_
  go_wp2
  refine bodyPost_ret (v := .string r) (by simp [results, Tryz.results101, go_sem]) rfl ?_
  exact ⟨rfl, hb4⟩
set_option maxHeartbeats 2000000 in
theorem refFloorQ (s : ByteArray) (p : Rat) (w : World) (hs : RStr s p) :
    Calls Tryz.prog 35 #[.string s] w (Bret (floorQ p) w) := by
  have C1 := fun W => refCheck02 s W (by have := hs.size; omega)
  rw [hs.rerr] at C1
  have C2 := fun W => refDown s p W hs
  unfold floorQ
  generalize str (Lib.itoa p.floor) = r at *
  have K1 := Lib.hid C1; have K2 := Lib.hid C2
  clear C1 C2 hs
  go_enter Tryz.func35, Tryz.ntmps35
  go_wp2_with (go_at_call 38; refine (K1.out _).mono ?_; rintro e w1 ⟨rfl, hb1⟩; refine Hid.out ?_)
  refine Lib.hid ?_
  go_wp2_with (go_at_call 100; refine (K2.out _).mono ?_; rintro e w2 ⟨rfl, hb2⟩; refine Hid.out ?_)
  have hB2 := Below.chain hb1 hb2; clear hb2 hb1
  refine Lib.hid ?_
  go_wp2
  refine bodyPost_ret (by simp [results, Tryz.results35, go_sem]; rfl) rfl ?_
  exact ⟨rfl, hB2⟩
set_option maxHeartbeats 1000000 in
theorem refFloor_e_3 (s : ByteArray) (w : World)
    (C1 : ∀ W, Calls Tryz.prog 38 #[.string s] W (Bret (.int .i64 3) W)) :
    Calls Tryz.prog 35 #[.string s] w (Bret (.tuple #[.string ⟨#[]⟩, .int .i64 3]) w) := by
  have K1 := Lib.hid C1; clear C1
  go_enter Tryz.func35, Tryz.ntmps35
  go_wp2_with (go_at_call 38; refine (K1.out _).mono ?_; rintro e w1 ⟨rfl, hb1⟩; refine Hid.out ?_)
  refine Lib.hid ?_
  go_wp2
  refine bodyPost_ret (by simp [results, Tryz.results35, go_sem]; rfl) rfl ?_
  exact ⟨rfl, hb1⟩
set_option maxHeartbeats 1000000 in
theorem refFloor_e_10 (s : ByteArray) (w : World)
    (C1 : ∀ W, Calls Tryz.prog 38 #[.string s] W (Bret (.int .i64 10) W)) :
    Calls Tryz.prog 35 #[.string s] w (Bret (.tuple #[.string ⟨#[]⟩, .int .i64 10]) w) := by
  have K1 := Lib.hid C1; clear C1
  go_enter Tryz.func35, Tryz.ntmps35
  go_wp2_with (go_at_call 38; refine (K1.out _).mono ?_; rintro e w1 ⟨rfl, hb1⟩; refine Hid.out ?_)
  refine Lib.hid ?_
  go_wp2
  refine bodyPost_ret (by simp [results, Tryz.results35, go_sem]; rfl) rfl ?_
  exact ⟨rfl, hb1⟩
theorem refFloor02 (s : ByteArray) (w : World) (hs : s.size ≤ 800000) :
    Calls Tryz.prog 35 #[.string s] w (Bret (ratR1 floorQ (bytes s)) w) := by
  unfold ratR1
  have C1 := fun W => refCheck02 s W hs
  rcases rerr_cases (bytes s) with h | h | h
  · rw [if_pos h]; exact refFloorQ s _ w (rstr_of_rerr h)
  · rw [if_neg (by omega)]; rw [h] at C1 ⊢; exact refFloor_e_3 s w C1
  · rw [if_neg (by omega)]; rw [h] at C1 ⊢; exact refFloor_e_10 s w C1

set_option maxHeartbeats 2000000 in
theorem refCeilQ (s : ByteArray) (p : Rat) (w : World) (hs : RStr s p) :
    Calls Tryz.prog 36 #[.string s] w (Bret (ceilQ p) w) := by
  have C1 := fun W => refCheck02 s W (by have := hs.size; omega)
  rw [hs.rerr] at C1
  have C2 := fun W => refUp s p W hs
  unfold ceilQ
  generalize str (Lib.itoa p.ceil) = r at *
  have K1 := Lib.hid C1; have K2 := Lib.hid C2
  clear C1 C2 hs
  go_enter Tryz.func36, Tryz.ntmps36
  go_wp2_with (go_at_call 38; refine (K1.out _).mono ?_; rintro e w1 ⟨rfl, hb1⟩; refine Hid.out ?_)
  refine Lib.hid ?_
  go_wp2_with (go_at_call 101; refine (K2.out _).mono ?_; rintro e w2 ⟨rfl, hb2⟩; refine Hid.out ?_)
  have hB2 := Below.chain hb1 hb2; clear hb2 hb1
  refine Lib.hid ?_
  go_wp2
  refine bodyPost_ret (by simp [results, Tryz.results36, go_sem]; rfl) rfl ?_
  exact ⟨rfl, hB2⟩
set_option maxHeartbeats 1000000 in
theorem refCeil_e_3 (s : ByteArray) (w : World)
    (C1 : ∀ W, Calls Tryz.prog 38 #[.string s] W (Bret (.int .i64 3) W)) :
    Calls Tryz.prog 36 #[.string s] w (Bret (.tuple #[.string ⟨#[]⟩, .int .i64 3]) w) := by
  have K1 := Lib.hid C1; clear C1
  go_enter Tryz.func36, Tryz.ntmps36
  go_wp2_with (go_at_call 38; refine (K1.out _).mono ?_; rintro e w1 ⟨rfl, hb1⟩; refine Hid.out ?_)
  refine Lib.hid ?_
  go_wp2
  refine bodyPost_ret (by simp [results, Tryz.results36, go_sem]; rfl) rfl ?_
  exact ⟨rfl, hb1⟩
set_option maxHeartbeats 1000000 in
theorem refCeil_e_10 (s : ByteArray) (w : World)
    (C1 : ∀ W, Calls Tryz.prog 38 #[.string s] W (Bret (.int .i64 10) W)) :
    Calls Tryz.prog 36 #[.string s] w (Bret (.tuple #[.string ⟨#[]⟩, .int .i64 10]) w) := by
  have K1 := Lib.hid C1; clear C1
  go_enter Tryz.func36, Tryz.ntmps36
  go_wp2_with (go_at_call 38; refine (K1.out _).mono ?_; rintro e w1 ⟨rfl, hb1⟩; refine Hid.out ?_)
  refine Lib.hid ?_
  go_wp2
  refine bodyPost_ret (by simp [results, Tryz.results36, go_sem]; rfl) rfl ?_
  exact ⟨rfl, hb1⟩
theorem refCeil02 (s : ByteArray) (w : World) (hs : s.size ≤ 800000) :
    Calls Tryz.prog 36 #[.string s] w (Bret (ratR1 ceilQ (bytes s)) w) := by
  unfold ratR1
  have C1 := fun W => refCheck02 s W hs
  rcases rerr_cases (bytes s) with h | h | h
  · rw [if_pos h]; exact refCeilQ s _ w (rstr_of_rerr h)
  · rw [if_neg (by omega)]; rw [h] at C1 ⊢; exact refCeil_e_3 s w C1
  · rw [if_neg (by omega)]; rw [h] at C1 ⊢; exact refCeil_e_10 s w C1


theorem neg_tail {s : ByteArray} {p : Rat} (hs : RStr s p) (h : p.den ≠ 1) : ∃ i : Nat, slashAt (bytes s) = i ∧ i < s.size ∧ str (ratL (-p)) = str (Lib.itoa (-p.num)) ++ s.extract i s.size := by
  have e : bytes s = Lib.itoa p.num ++ 47 :: Lib.itoa (p.den : Int) := by rw [hs.text]; unfold ratL; rw [if_neg h]
  have hi : slashAt (bytes s) = (Lib.itoa p.num).length := by rw [e]; exact indexByte_hit (noSlash_itoa _)
  refine ⟨_, hi, ?_, ?_⟩
  · show _ < (bytes s).length
    rw [e]; simp
  · rw [extract_drop, e, List.drop_left', str_cat]
    · unfold ratL; rw [if_neg (by rw [Rat.neg_den]; exact h), Rat.neg_num, Rat.neg_den]
    · rfl
theorem neg_whole {s : ByteArray} {p : Rat} (hs : RStr s p) (h : p.den = 1) : slashAt (bytes s) = -1 ∧ bytes s = Lib.itoa p.num ∧ str (ratL (-p)) = str (Lib.itoa (-p.num)) := by
  have e : bytes s = Lib.itoa p.num := by rw [hs.text]; unfold ratL; rw [if_pos h]
  refine ⟨by rw [e]; exact indexByte_miss (noSlash_itoa _), e, ?_⟩
  unfold ratL; rw [if_pos (by rw [Rat.neg_den]; exact h), Rat.neg_num]
set_option maxHeartbeats 2000000 in
theorem refNegd (s : ByteArray) (p : Rat) (w : World) (hs : RStr s p) : Calls Tryz.prog 99 #[.string s] w (Bret (.string (str (ratL (-p)))) w) := by
  have C1 := fun W => slash_any s W (by have := hs.size; omega)
  have C2 := fun W => topS W hs
  have C3 := fun W => negT W hs.rs.num.txt (by decide)
  have hz := hs.size
  have hnz := (txt_neg' hs.rs.num.txt).size
  by_cases h : p.den = 1
  · obtain ⟨e1, e2, e3⟩ := neg_whole hs h
    have C4 := fun W => negT W (s := s) (x := p.num) (m := 4096) ⟨e2, hs.rs.num.len⟩ (by decide)
    rw [e1] at C1
    rw [e3]
    generalize str (Lib.itoa (-p.num)) = r at *
    have K1 := Lib.hid C1; have K4 := Lib.hid C4
    clear C1 C4 C2 C3 hs h e1 e2 e3 hz hnz
    go_enter Tryz.func99, Tryz.ntmps99
    go_wp2_with (go_at_call 160; refine (K1.out _).mono ?_; rintro e w1 ⟨rfl, h⟩; subst h; refine Hid.out ?_)
    refine Lib.hid ?_
    go_wp2_with (go_at_call 161; refine (K4.out _).mono ?_; rintro e w2 ⟨rfl, h⟩; subst h; refine Hid.out ?_)
    refine Lib.hid ?_
    go_wp2
    refine bodyPost_ret (v := .string r) (by simp [results, Tryz.results99, go_sem]) rfl ?_
    exact ⟨rfl, Below.refl _ _⟩
  · obtain ⟨i, e1, e2, e3⟩ := neg_tail hs h
    rw [e1] at C1
    rw [e3]
    have hez : (s.extract i s.size).size ≤ 9000 := by rw [ByteArray.size_extract]; omega
    generalize str (Lib.itoa (-p.num)) = r at *
    generalize str (Lib.itoa p.num) = a1 at *
    have K1 := Lib.hid C1; have K2 := Lib.hid C2; have K3 := Lib.hid C3
    clear C1 C2 C3 hs h e1 e3
    go_enter Tryz.func99, Tryz.ntmps99
    go_wp2_with (go_at_call 160; refine (K1.out _).mono ?_; rintro e w1 ⟨rfl, h⟩; subst h; refine Hid.out ?_)
    refine Lib.hid ?_
    go_wp2_with fail
    go_region_with (first | (go_at_call 97; refine (K2.out _).mono ?_; rintro e w4 ⟨rfl, rfl⟩) | (go_at_call 161; refine (K3.out _).mono ?_; rintro e w5 ⟨rfl, rfl⟩))
    all_goals
      go_wp2
      refine bodyPost_ret (v := .string (r ++ s.extract i s.size)) (by simp [results, Tryz.results99, go_sem]) rfl ?_
      exact ⟨rfl, (Below.refl _ _).drew⟩
set_option maxHeartbeats 2000000 in
theorem refNegQ (s : ByteArray) (p : Rat) (w : World) (hs : RStr s p) :
    Calls Tryz.prog 34 #[.string s] w (Bret (negQ p) w) := by
  have C1 := fun W => refCheck02 s W (by have := hs.size; omega)
  rw [hs.rerr] at C1
  have C2 := fun W => refNegd s p W hs
  unfold negQ
  generalize str (ratL (-p)) = r at *
  have K1 := Lib.hid C1; have K2 := Lib.hid C2
  clear C1 C2 hs
  go_enter Tryz.func34, Tryz.ntmps34
  go_wp2_with (go_at_call 38; refine (K1.out _).mono ?_; rintro e w1 ⟨rfl, hb1⟩; refine Hid.out ?_)
  refine Lib.hid ?_
  go_wp2_with (go_at_call 99; refine (K2.out _).mono ?_; rintro e w2 ⟨rfl, hb2⟩; refine Hid.out ?_)
  have hB2 := Below.chain hb1 hb2; clear hb2 hb1
  refine Lib.hid ?_
  go_wp2
  refine bodyPost_ret (by simp [results, Tryz.results34, go_sem]; rfl) rfl ?_
  exact ⟨rfl, hB2⟩
set_option maxHeartbeats 1000000 in
theorem refNeg_e_3 (s : ByteArray) (w : World)
    (C1 : ∀ W, Calls Tryz.prog 38 #[.string s] W (Bret (.int .i64 3) W)) :
    Calls Tryz.prog 34 #[.string s] w (Bret (.tuple #[.string ⟨#[]⟩, .int .i64 3]) w) := by
  have K1 := Lib.hid C1; clear C1
  go_enter Tryz.func34, Tryz.ntmps34
  go_wp2_with (go_at_call 38; refine (K1.out _).mono ?_; rintro e w1 ⟨rfl, hb1⟩; refine Hid.out ?_)
  refine Lib.hid ?_
  go_wp2
  refine bodyPost_ret (by simp [results, Tryz.results34, go_sem]; rfl) rfl ?_
  exact ⟨rfl, hb1⟩
set_option maxHeartbeats 1000000 in
theorem refNeg_e_10 (s : ByteArray) (w : World)
    (C1 : ∀ W, Calls Tryz.prog 38 #[.string s] W (Bret (.int .i64 10) W)) :
    Calls Tryz.prog 34 #[.string s] w (Bret (.tuple #[.string ⟨#[]⟩, .int .i64 10]) w) := by
  have K1 := Lib.hid C1; clear C1
  go_enter Tryz.func34, Tryz.ntmps34
  go_wp2_with (go_at_call 38; refine (K1.out _).mono ?_; rintro e w1 ⟨rfl, hb1⟩; refine Hid.out ?_)
  refine Lib.hid ?_
  go_wp2
  refine bodyPost_ret (by simp [results, Tryz.results34, go_sem]; rfl) rfl ?_
  exact ⟨rfl, hb1⟩
theorem refNeg02 (s : ByteArray) (w : World) (hs : s.size ≤ 800000) :
    Calls Tryz.prog 34 #[.string s] w (Bret (ratR1 negQ (bytes s)) w) := by
  unfold ratR1
  have C1 := fun W => refCheck02 s W hs
  rcases rerr_cases (bytes s) with h | h | h
  · rw [if_pos h]; exact refNegQ s _ w (rstr_of_rerr h)
  · rw [if_neg (by omega)]; rw [h] at C1 ⊢; exact refNeg_e_3 s w C1
  · rw [if_neg (by omega)]; rw [h] at C1 ⊢; exact refNeg_e_10 s w C1

end Go.Proofs.YtbadibbdoljjhaaGreatDoor
