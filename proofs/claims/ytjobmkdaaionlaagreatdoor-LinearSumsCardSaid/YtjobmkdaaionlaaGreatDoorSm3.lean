import Derived.Test.YtjobmkdaaionlaaGreatDoorSm2
import Derived.Test.YtjobmkdaaionlaaGreatDoorCut36
import Derived.Test.YtjobmkdaaionlaaGreatDoorOwnRatN
import Derived.Test.YtjobmkdaaionlaaGreatDoorSm1
import Derived.Deep.CutRange
import Derived.Test.YtjobmkdaaionlaaGreatDoorCut37
import Derived.Test.YtjobmkdaaionlaaGreatDoorCut35
import Derived.Test.YtjobmkdaaionlaaGreatDoorCut32

set_option linter.unusedVariables false
/-
  linear: the reference's Scaled.
-/
set_option linter.unusedSimpArgs false
namespace Go.Proofs.YtjobmkdaaionlaaGreatDoor
open Go Go.Proofs Go.RowKit

/-- The least common denominator of the constant and the first j coefficients. -/
def dS (l : List ByteArray) (k : ByteArray) (j : Nat) : Nat := Nat.lcm (rv k).den (lcmD (l.take j))
theorem dS_zero (l : List ByteArray) (k : ByteArray) : dS l k 0 = (rv k).den := by unfold dS lcmD; simp
theorem dS_next (l : List ByteArray) (k : ByteArray) (j : Nat) (h : j < l.length) : dS l k (j + 1) = Nat.lcm (dS l k j) (rv l[j]).den := by
  unfold dS; rw [lcmD_take l j h, Nat.lcm_assoc]
theorem dS_end (l : List ByteArray) (k : ByteArray) : dS l k l.length = lcmD (l ++ [k]) := by
  have h := lcmD_take (l ++ [k]) l.length (by simp)
  rw [show (l ++ [k]).take (l.length + 1) = l ++ [k] by rw [List.take_of_length_le]; simp, List.take_left' rfl, List.getElem_concat_length rfl] at h
  rw [h]
  unfold dS
  rw [List.take_of_length_le (Nat.le_refl _), Nat.lcm_comm]
theorem good_den {n : Nat} {s : ByteArray} (h : Good n s) : (rv s).den < 10 ^ n := by
  have := h.rz.den
  unfold Sz at this; rwa [Int.natAbs_natCast] at this
theorem dS_lt {l : List ByteArray} {k : ByteArray} (hg : ∀ s ∈ l ++ [k], Good 100 s) (j : Nat) (hj : j ≤ l.length) : dS l k j < 10 ^ (100 + (100 * j + 1)) := by
  refine Nat.lt_of_le_of_lt (lcm_le _ _) ?_
  rw [Nat.pow_add]
  exact Nat.mul_lt_mul'' (good_den (hg k (by simp))) (lcmD_lt l (fun s hs => hg s (List.mem_append_left _ hs)) j hj)
theorem lcm_fdiv (a b : Nat) : ((a : Int) * (b : Int)).fdiv (gcdI (a : Int) (b : Int)) = ((Nat.lcm a b : Nat) : Int) := by
  unfold gcdI
  rw [show Int.gcd (a : Int) (b : Int) = Nat.gcd a b from rfl, Int.fdiv_eq_ediv_of_nonneg _ (Int.natCast_nonneg _), ← Int.natCast_mul, ← Int.natCast_ediv]
  rfl
theorem lcmD_dvd {m : List ByteArray} {s : ByteArray} (h : s ∈ m) : (rv s).den ∣ lcmD m := by
  obtain ⟨j, hj, rfl⟩ := List.mem_iff_getElem.1 h
  have key : ∀ i, j < i → i ≤ m.length → (rv m[j]).den ∣ lcmD (m.take i) := by
    intro i
    induction i with
    | zero => intro h; omega
    | succ i ih =>
      intro h1 h2
      rw [lcmD_take m i (by omega)]
      rcases Nat.lt_or_ge j i with h | h
      · exact Nat.dvd_trans (ih h (by omega)) (Nat.dvd_lcm_left _ _)
      · have : j = i := by omega
        subst this
        exact Nat.dvd_lcm_right _ _
  have := key m.length hj (Nat.le_refl _)
  rwa [List.take_of_length_le (Nat.le_refl _)] at this
theorem rv_itN (d : Nat) : rv (itN d) = ((d : Int) : Rat) := by rw [itN_tq, rv_tq]
theorem int_div (z : Int) : (z : Rat) = Rat.divInt z 1 := by
  have := Rat.num_divInt_den (z : Rat)
  rw [Rat.num_intCast, Rat.den_intCast] at this
  exact this.symm
theorem mul_whole {s : ByteArray} {d : Nat} (h : (rv s).den ∣ d) : (rv (mulT s (itN d))).den = 1 := by
  obtain ⟨m, rfl⟩ := h
  unfold mulT
  rw [rv_tq, rv_itN]
  have hd : (((rv s).den : Nat) : Int) ≠ 0 := by have := (rv s).den_nz; omega
  have e : rv s * ((((rv s).den * m : Nat) : Int) : Rat) = (((rv s).num * (m : Int) : Int) : Rat) := by
    rw [int_div, int_div]
    conv => lhs; lhs; rw [← Rat.num_divInt_den (rv s)]
    rw [Rat.divInt_mul_divInt, Int.mul_one, Int.natCast_mul, show (rv s).num * (((rv s).den : Int) * (m : Int)) = ((rv s).num * (m : Int)) * ((rv s).den : Int) by rw [Int.mul_comm ((rv s).den : Int), Int.mul_assoc]]
    have := Rat.divInt_mul_right (n := (rv s).num * (m : Int)) (d := 1) hd
    rwa [Int.one_mul] at this
  rw [e]
  rfl
theorem bottomN {n : Nat} {s : ByteArray} (h : Good n s) (h0 : 0 < n) (hn : n ≤ 20000) (w : World) : Calls Tryz.prog 41 #[.string s] w (Bret (.string (itN (rv s).den)) w) :=
  (h.bot h0 hn w).mono fun e w' ⟨h1, h2⟩ => ⟨h1, by subst h2; exact Below.refl _ _⟩
theorem txt_nat {d n : Nat} (h : d < 10 ^ n) (h0 : 0 < n) : Txt n (itN d) (d : Int) := Txt.ofLt h0 (by rw [Int.natAbs_natCast]; exact h)
theorem frac_one {d n : Nat} (h : d < 10 ^ n) (h0 : 0 < n) (hn : n ≤ 20000) (w : World) : Calls Tryz.prog 92 #[.string (itN d), .string ⟨#[49]⟩] w (Bret (.string (itN d)) w) := by
  have := fracT w (txt_nat h h0) (show Txt 1 ⟨#[49]⟩ (1 : Int) by
    have := txt_nat (d := 1) (n := 1) (by decide) (by decide)
    rwa [show itN 1 = (⟨#[49]⟩ : ByteArray) by kernel_rfl] at this) (by omega) (by decide) (by decide)
  rwa [show str (ratL (Rat.divInt (d : Int) 1)) = itN d by rw [itN_tq, ← int_div]; rfl] at this

/-- An element that is appended to an own row, in a list of operations. -/
theorem wpList_append_rowI {ops : Array Oper} {rest : List Oper} {o : Oper} {a : Act} {W : World} {Q : Exit → Act → World → Prop}
    (hg : o.guard = none) (s x : Operand) (hop : o.op = Op.call { callee := Callee.builtin Builtin.append, args := #[s, x], argTypes := #[40, 40] })
    (base : Nat) (v : Value) (n : Nat) (l : List ByteArray) (hn : l.length = n) (hs : a.eval s = v) (hown : W.ownsRow base 41 1 v n (strCells l)) (hl : n ≤ 1200000) (hbase : base ≤ W.heap.size)
    (ad : Nat) (k : ByteArray) (hx : a.eval x = .slice (some ⟨ad, 0, none⟩) 1 1) (hc : W.cell? ⟨ad, 0, none⟩ = some (.string k))
    (hK : ∀ (g cap : Nat) (w9 : World), w9.ownsRow base 41 1 (.slice (some ⟨g, 0, none⟩) (n + 1) cap) (n + 1) (strCells (l ++ [k])) → Below base W w9 → wpList Tryz.prog ops Q rest (a.put o.dst (.slice (some ⟨g, 0, none⟩) (n + 1) cap)) w9) :
    wpList Tryz.prog ops Q (o :: rest) a W := by
  obtain ⟨i0, hi, hz0, hz1, hz2⟩ := info_parts infoInt
  refine wpList_append_lies W hg s x 40 hop base 41 i0 (.string ⟨#[]⟩) 1 16 Tryz.underlying40 hi hz0 hz1 hz2 rfl (by decide) v n (strCells l) hs hown ⟨ad, 0, none⟩ 1 1 [.string k] hx rfl ?_ (by intro u hu; simp at hu; subst hu; rfl) (by decide) (by unfold maxLen; omega) (by omega) hbase _ rfl ?_
  · intro j u hu
    match j, hu with
    | 0, hu => simp at hu; subst hu; rw [addr_zero]; exact hc
  · intro g cap w9 hown9 hgrow _ hg9
    rw [show strCells l ++ [Value.string k] = strCells (l ++ [k]) from (strCells_append l [k]).symm] at hown9
    exact hK g cap w9 hown9 ((Below.refl _ _).grown hgrow hbase (fun k hk => (hown.lt k hk).1))

theorem OutRet.rowT {W : World} {Bd : Nat} {T : TypeId} {ao : Option Addr} {c : Nat} {l : List ByteArray} (h : W.ownsRow Bd T 1 (.slice ao l.length c) l.length (strCells l)) : RowB Bd W ao c l := by
  refine ⟨?_, fun a ha => ?_⟩
  · obtain ⟨a2, c2, e, r⟩ := srow_of_ownsT h
    cases e; exact r
  · rcases h.2 with ⟨e, -⟩ | ⟨g, cap, cur, e, hb, -⟩
    · injection e with e1 e2 e3; rw [e1] at ha; cases ha
    · injection e with e1 e2 e3; rw [e1] at ha; cases ha; exact hb
theorem Bx2.put1 {W : World} {p : Nat} {u v : Value} (h : Bx2 W p u v) (x : Value) : Bx2 (W.setCell ⟨p, 1, none⟩ x) p u x :=
  ⟨(World.cell?_setCell_other W ⟨p, 1, none⟩ ⟨p, 0, none⟩ x (by simp)).trans h.c0, cellSet h.c1 x, (World.frozen?_setCell ..).trans h.f0, (World.frozen?_setCell ..).trans h.f1, by simpa using h.lt⟩
theorem ownsRow_mono {W W' : World} {B : Nat} {T : TypeId} {v : Value} {n : Nat} {xs : List Value} (h : W.ownsRow B T 1 v n xs) (g : Below W.heap.size W W') : W'.ownsRow B T 1 v n xs := by
  obtain ⟨h1, h2⟩ := h
  refine ⟨h1, h2.imp_right fun ⟨b, cap, cur, e, hb, hg, r⟩ => ⟨b, cap, cur, e, hb, ?_, r⟩⟩
  rw [g.block b (Array.getElem?_eq_some_iff.1 hg).1]; exact hg
theorem Bx2.drew {W : World} {p : Nat} {u v : Value} (h : Bx2 W p u v) : Bx2 W.drew p u v := ⟨h.c0, h.c1, h.f0, h.f1, h.lt⟩
/-- The coefficients' texts, the constant's and the factor. -/
def ScRet (l : List ByteArray) (k d : ByteArray) (w : World) (e : Ending) (w' : World) : Prop :=
  ∃ ao c, e = .returned (.tuple #[.slice ao l.length c, .string k, .string d]) ∧ RowB w.heap.size w' ao c l ∧ Below w.heap.size w w'

set_option maxRecDepth 20000 in
set_option maxHeartbeats 8000000 in
theorem refScaled (l : List ByteArray) (k : ByteArray) (ao : Option Addr) (c : Nat) (w : World) (hr : SRow w ao c l) (hl : l.length ≤ 32) (hg : ∀ s ∈ l ++ [k], Good 100 s) :
    Calls Tryz.prog 62 #[.agg #[.slice ao l.length c, .string k]] w (ScRet (l.map fun s => mulT s (itN (lcmD (l ++ [k])))) (mulT k (itN (lcmD (l ++ [k])))) (itN (lcmD (l ++ [k]))) w) := by
  have CK := fun (W : World) => bottomN (hg k (by simp)) (by decide) (by decide) W
  rw [← dS_zero l k] at CK
  have CB : ∀ (j : Nat) (hj : j < l.length) (W : World), Calls Tryz.prog 41 #[.string (l[j]'hj)] W (Bret (.string (itN (rv (l[j]'hj)).den)) W) := fun j hj W => bottomN (hg _ (List.mem_append_left _ (List.getElem_mem hj))) (by decide) (by decide) W
  have TD : ∀ j, j ≤ l.length → Txt 20000 (itN (dS l k j)) (dS l k j : Int) := fun j hj => (txt_nat (dS_lt hg j hj) (by omega)).mono (by omega)
  have TB : ∀ (j : Nat) (hj : j < l.length), Txt 20000 (itN (rv (l[j]'hj)).den) ((rv (l[j]'hj)).den : Int) := fun j hj => (txt_nat (good_den (hg _ (List.mem_append_left _ (List.getElem_mem hj)))) (by omega)).mono (by omega)
  have CP : ∀ (j : Nat) (hj : j < l.length) (W : World), Calls Tryz.prog 90 #[.string (itN (dS l k j)), .string (itN (rv (l[j]'hj)).den)] W (Bret (.string (str (Lib.itoa ((dS l k j : Int) * ((rv (l[j]'hj)).den : Int))))) W) := fun j hj W => prodT W (TD j (by omega)) (TB j hj) (by omega) (by omega)
  have CC : ∀ (j : Nat) (hj : j < l.length) (W : World), Calls Tryz.prog 91 #[.string (itN (dS l k j)), .string (itN (rv (l[j]'hj)).den)] W (Bret (.string (str (Lib.itoa (gcdI (dS l k j : Int) ((rv (l[j]'hj)).den : Int))))) W) := fun j hj W => commonT W (TD j (by omega)) (TB j hj) (by omega) (by omega)
  have CF : ∀ (j : Nat) (hj : j < l.length) (W : World), Calls Tryz.prog 89 #[.string (str (Lib.itoa ((dS l k j : Int) * ((rv (l[j]'hj)).den : Int)))), .string (str (Lib.itoa (gcdI (dS l k j : Int) ((rv (l[j]'hj)).den : Int))))] W (Bret (.string (itN (dS l k (j + 1)))) W) := fun j hj W => by
    have hden : 0 < (rv (l[j]'hj)).den := (rv (l[j]'hj)).den_pos
    have hb := good_den (hg _ (List.mem_append_left [k] (List.getElem_mem hj)))
    have hdj := dS_lt hg j (by omega)
    have hgc : Nat.gcd (dS l k j) (rv (l[j]'hj)).den ≤ (rv (l[j]'hj)).den := Nat.le_of_dvd hden (Nat.gcd_dvd_right _ _)
    have hgp : 0 < Nat.gcd (dS l k j) (rv (l[j]'hj)).den := Nat.gcd_pos_of_pos_right _ hden
    have hprod : dS l k j * (rv (l[j]'hj)).den < 10 ^ ((100 + (100 * j + 1)) + 100) := by rw [Nat.pow_add]; exact Nat.mul_lt_mul'' hdj hb
    have t1 := txt_nat hprod (by omega)
    have t2 := txt_nat (Nat.lt_of_le_of_lt hgc hb) (by omega)
    have := fdivT W t1 t2 (by omega) (by omega) (by omega)
    rw [show ((dS l k j * (rv (l[j]'hj)).den : Nat) : Int) = (dS l k j : Int) * ((rv (l[j]'hj)).den : Int) from Int.natCast_mul _ _] at this
    rw [show ((Nat.gcd (dS l k j) (rv (l[j]'hj)).den : Nat) : Int) = gcdI (dS l k j : Int) ((rv (l[j]'hj)).den : Int) from rfl, lcm_fdiv] at this
    rw [dS_next l k j hj]
    have e1 : itN (dS l k j * (rv (l[j]'hj)).den) = str (Lib.itoa ((dS l k j : Int) * ((rv (l[j]'hj)).den : Int))) := by unfold itN; rw [Int.natCast_mul]
    have e2 : itN (Nat.gcd (dS l k j) (rv (l[j]'hj)).den) = str (Lib.itoa (gcdI (dS l k j : Int) ((rv (l[j]'hj)).den : Int))) := rfl
    rw [e1, e2] at this
    exact this
  have hend := dS_end l k
  have gD : Good 3401 (itN (lcmD (l ++ [k]))) := by
    rw [← hend]; exact (good_nat (dS_lt hg l.length (Nat.le_refl _)) (by omega)).mono (by omega)
  have CR := fun (W : World) => frac_one (dS_lt hg l.length (Nat.le_refl _)) (by omega) (by omega) W
  have CT := fun (W : World) (hW : Below w.heap.size w W) => refTimesL l k (itN (dS l k l.length)) ao c 100 3401 W (hr.mono hW) (by omega) hg (by rw [hend]; exact gD) (by decide) (by decide) (by decide) (by decide)
  have hmap : ∀ s ∈ l ++ [k], Good (100 + 3401) (mulT s (itN (lcmD (l ++ [k])))) ∧ (rv (mulT s (itN (lcmD (l ++ [k]))))).den = 1 := fun s hs => ⟨(hg s hs).mul gD, mul_whole (lcmD_dvd hs)⟩
  have CTop : ∀ s ∈ l ++ [k], ∀ (W : World), Calls Tryz.prog 93 #[.string (mulT s (itN (lcmD (l ++ [k]))))] W (Bret (.string (mulT s (itN (lcmD (l ++ [k]))))) W) := fun s hs W => by
    obtain ⟨h1, h2⟩ := hmap s hs
    have := h1.top (by decide) (by decide) W
    rw [h1.whole h2] at this
    exact this.mono fun e w' ⟨h1, h2⟩ => ⟨h1, by subst h2; exact Below.refl _ _⟩
  have CM : ∀ (j : Nat) (hj : j < l.length) (W : World), Calls Tryz.prog 93 #[.string ((l.map fun s => mulT s (itN (lcmD (l ++ [k]))))[j]'(by simpa using hj))] W (Bret (.string ((l.map fun s => mulT s (itN (lcmD (l ++ [k])))).getD j ⟨#[]⟩)) W) := fun j hj W => by
    rw [getD_get _ (by simpa using hj), List.getElem_map]
    exact CTop _ (List.mem_append_left _ (List.getElem_mem hj)) W
  have CMK := CTop k (by simp)
  have hrow : ∀ W, Below w.heap.size w W → ∀ j (hj : j < l.length), ∃ b off, ao = some ⟨b, off, none⟩ ∧ b < W.heap.size ∧ W.cell? ⟨b, off + j, none⟩ = some (.string (l[j]'hj)) := fun W hW => (hr.mono hW).get
  have hml : (l.map fun s => mulT s (itN (lcmD (l ++ [k])))).length = l.length := by simp
  have X := Bx2.new w (.slice ao l.length c) (.string k) 27
  have B : Below w.heap.size w (w.alloc (Obj.cells #[.slice ao l.length c, .string k] 27)) := (Below.refl _ _).alloc (Nat.le_refl _) _
  clear TD TB CTop hmap gD hr hg
  rw [← hend] at *
  generalize hD : dS l k = D at *
  clear hend hD
  unfold OutRet at CT
  rw [hml] at CT
  have hmj : ∀ j, j < l.length → j < (l.map fun s => mulT s (itN (D l.length))).length := fun j hj => by simpa using hj
  have CM' : ∀ (j : Nat) (hj : j < l.length) (W : World), Calls Tryz.prog 93 #[.string ((l.map fun s => mulT s (itN (D l.length)))[j]'(hmj j hj))] W (Bret (.string ((l.map fun s => mulT s (itN (D l.length))).getD j ⟨#[]⟩)) W) := CM
  clear CM
  generalize mulT k (itN (D l.length)) = kk at *
  generalize (l.map fun s => mulT s (itN (D l.length))) = m at *
  have e1 : ({ data := #[49] } : ByteArray) = ⟨#[49]⟩ := rfl
  have HROW := Lib.hid hrow; have KK := Lib.hid CK; have KB := Lib.hid CB; have KP := Lib.hid CP; have KC := Lib.hid CC; have KF := Lib.hid CF; have KR := Lib.hid CR; have KT := Lib.hid CT; have KM := Lib.hid CM'; have KMK := Lib.hid CMK; have HML := Lib.hid hml
  clear hrow CK CB CP CC CF CR CT CM' CMK hml
  have x0 := X.c0; have x1 := X.c1; have x4 := X.lt
  go_enter Tryz.func62, Tryz.ntmps62
  go_wp2_with (go_at_call 41; refine (KK.out _).mono ?_; rintro e w1 ⟨rfl, hb1⟩; refine Hid.out ?_)
  have X1 := X.mono hb1; have B1 := Below.chain B hb1
  clear hb1 X B x0 x1 x4
  refine Lib.hid ?_
  go_wp2_with fail
  go_loopw [5, 6] (fun dv iv wr => ∃ (j : Nat), j ≤ l.length ∧ dv = .string (itN (D j)) ∧ iv = .int .i64 (j : Int) ∧ Bx2 wr w.heap.size (.slice ao l.length c) (.string k) ∧ Below w.heap.size w wr) (fun _ iv _ => l.length - (intOf iv).toNat)
  case atStart => exact ⟨0, Nat.zero_le _, rfl, rfl, X1, B1⟩
  case round =>
    obtain ⟨j, hj, rfl, rfl, hx, hB⟩ := hrel
    clear X1 B1
    by_cases hlt : j < l.length
    · obtain ⟨b, off, rfl, hbl, hcl⟩ := HROW.out wr hB j hlt
      have C1 := KB.out j hlt; have C2 := KP.out j hlt; have C3 := KC.out j hlt; have C4 := KF.out j hlt
      generalize l[j]'hlt = sj at *
      have hj0 : (0 : Int) ≤ (j : Int) := by omega
      have hj1 : (j : Int) < (l.length : Int) := by omega
      have K1 := Lib.hid C1; have K2 := Lib.hid C2; have K3 := Lib.hid C3; have K4 := Lib.hid C4
      have x0 := hx.c0; have x4 := hx.lt
      clear C1 C2 C3 C4
      go_wp2_with (go_at_call 41; refine (K1.out _).mono ?_; rintro e w2 ⟨rfl, hb2⟩; refine Hid.out ?_)
      have x2 := hx.mono hb2; have hB2 := Below.chain hB hb2
      clear hb2 hB hx x0 x4 hcl hbl
      refine Lib.hid ?_
      go_wp2_with (go_at_call 90; refine (K2.out _).mono ?_; rintro e w3 ⟨rfl, hb3⟩; refine Hid.out ?_)
      have x3 := x2.mono hb3; have hB3 := Below.chain hB2 hb3
      clear hb3 hB2 x2
      refine Lib.hid ?_
      go_wp2_with (go_at_call 91; refine (K3.out _).mono ?_; rintro e w4 ⟨rfl, hb4⟩; refine Hid.out ?_)
      have x5 := x3.mono hb4; have hB4 := Below.chain hB3 hb4
      clear hb4 hB3 x3
      refine Lib.hid ?_
      go_wp2_with (go_at_call 89; refine (K4.out _).mono ?_; rintro e w5 ⟨rfl, hb5⟩; refine Hid.out ?_)
      have x6 := x5.mono hb5; have hB5 := Below.chain hB4 hb5
      have HX := Lib.hid x6; have HB := Lib.hid hB5
      clear hb5 hB4 x5 x6 hB5
      refine Lib.hid ?_
      go_wp2
      go_roundw
      case rel => exact ⟨j + 1, by omega, rfl, by go_num, HX.out, HB.out⟩
      case measure => simp [intOf]; omega
    · have hjn : j = l.length := by omega
      subst hjn
      have HX := Lib.hid hx; have HB := Lib.hid hB
      have KST : ∀ W, Below wr.heap.size wr W → (W.cell? ⟨w.heap.size, 0, none⟩ = some (.slice ao l.length c) ∧ W.cell? ⟨w.heap.size, 1, none⟩ = some (.string k)) := fun W hW => ⟨(hx.mono hW).c0, (hx.mono hW).c1⟩
      have HST := Lib.hid KST
      have x0 := hx.c0; have x4 := hx.lt; have x1 := hx.c1
      clear KST hx hB
      go_wp2_with fail
      go_cut [8] from 34 to 38 (fun s8 wc => ∃ b8 a3 c3, s8 = .pointer (some ⟨b8, 0, none⟩) ∧ Bx2 wc b8 (.slice a3 l.length c3) (.string kk) ∧ SRow wc a3 c3 m ∧ Below w.heap.size w wc)
      case first =>
        rename_i J K' hJ hK'
        have NW : Below wr.heap.size wr wr.drew := (Below.refl _ _).drew
        have R0 := Below.refl wr.heap.size wr
        go_region_held3 (fun w' => w'.cell? ⟨w.heap.size, 0, none⟩ = some (.slice ao l.length c) ∧ w'.cell? ⟨w.heap.size, 1, none⟩ = some (.string k))
          (first | exact HST.out _ NW | exact HST.out _ (nb NW _) | exact HST.out _ (nb R0 _).drew | exact HST.out _ ((NW.setCell (p := ⟨_, 0, none⟩) (by dsimp only; omega) _).setCell (p := ⟨_, 1, none⟩) (by dsimp only; omega) _))
          (first
          | (go_at_call 92; (with_reducible refine (KR.out _).mono ?_); rintro e wf ⟨rfl, hf⟩; (first | (have NW : Below wr.heap.size wr wf := Below.chain NW hf; have q5 := NW.size) | (have NW : Below wr.heap.size wr wf := Below.chain (nb NW _) hf; have QB := (Bx2.new _ (.slice none 0 0) (.string ⟨#[]⟩) 27).mono hf; have q5 := NW.size) | (have NW : Below wr.heap.size wr wf := Below.chain (nb R0 _).drew hf; have QB := (Bx2.new _ (.slice none 0 0) (.string ⟨#[]⟩) 27).drew.mono hf; have q5 := NW.size)))
          | (go_at_call 69; (first | (with_reducible refine (KT.out _ (Below.chain HB.out NW)).mono ?_) | (with_reducible refine (KT.out _ (Below.chain HB.out (nb NW _))).mono ?_)); rintro e wt ⟨a3, c3, rfl, ho3, ht⟩; (first | (have NW : Below wr.heap.size wr wt := Below.chain NW ht; (first | (have QB := QB.mono ht; have q0 := QB.c0; have q1 := QB.c1; have q2 := QB.f0; have q3 := QB.f1; have q4 := QB.lt; have q5 := NW.size; clear ht) | (have q5 := NW.size; clear ht))) | (have NW : Below wr.heap.size wr wt := Below.chain (nb NW _) ht; have QB := (Bx2.new _ (.slice none 0 0) (.string ⟨#[]⟩) 27).mono ht; have q0 := QB.c0; have q1 := QB.c1; have q2 := QB.f0; have q3 := QB.f1; have q4 := QB.lt; have q5 := NW.size; clear ht)))
          | fail)
        all_goals
          refine hK' _ _ ?_
          refine Met.intro ?_
          refine hJ _ _ ?_
          (repeat apply Exists.intro)
          refine ⟨?_, rfl⟩
        all_goals first
          | exact ⟨_, a3, c3, rfl, Bx2.new wt _ _ _, ((OutRet.row (by rw [HML.out]; exact ho3)).mono (nb (Below.refl _ _) _)).1, Below.chain HB.out (nb NW _)⟩
          | exact ⟨_, a3, c3, rfl, (QB.put0 _).put1 _, (((OutRet.row (by rw [HML.out]; exact ho3)).set (p := _) (by (try simp); omega) 0 _).set (p := _) (by (try simp); omega) 1 _).1, Below.chain HB.out ((NW.setCell (p := ⟨_, 0, none⟩) (by dsimp only; omega) _).setCell (p := ⟨_, 1, none⟩) (by dsimp only; omega) _)⟩
      case rest =>
        obtain ⟨b8, a3, c3, rfl, bx, r3, hBc⟩ := hcut
        have hrow3 : ∀ W, Below wc.heap.size wc W → ∀ t (ht : t < m.length), ∃ b off, a3 = some ⟨b, off, none⟩ ∧ b < W.heap.size ∧ W.cell? ⟨b, off + t, none⟩ = some (.string (m[t]'ht)) := fun W hW => (r3.mono hW).get
        have hgm : (List.range m.length).map (fun j => m.getD j ⟨#[]⟩) = m := by have := map_range_getD m id; rwa [List.map_id] at this
        have HROW3 := Lib.hid hrow3; have HGM := Lib.hid hgm
        generalize hf : (fun j => m.getD j ⟨#[]⟩) = f at *
        have KM2 : ∀ (j : Nat) (hj : j < l.length) (W : World), Calls Tryz.prog 93 #[.string (m[j]'(by rw [HML.out]; exact hj))] W (Bret (.string (f j)) W) := fun j hj W => by subst hf; exact KM.out j hj W
        have HM2 := Lib.hid KM2
        clear hrow3 hgm hf KM2 r3
        have HBX := Lib.hid bx; have HBC := Lib.hid hBc
        have b0 := bx.c0; have b1 := bx.c1; have b4 := bx.lt
        have HN0 := Lib.hid (World.ownsRow_nil wc wc.heap.size 41 1)
        clear bx hBc x0 x1 x4
        go_wp2_with fail
        go_loopw [9, 10] (fun sv iv wr => ∃ (j : Nat) (a2 : Option Addr) (c2 : Nat), j ≤ l.length ∧ sv = .slice a2 j c2 ∧ iv = .int .i64 (j : Int) ∧ Below wc.heap.size wc wr ∧ wr.ownsRow wc.heap.size 41 1 (.slice a2 j c2) j (strCells ((List.range j).map f))) (fun _ iv _ => l.length - (intOf iv).toNat)
        case atStart => exact ⟨0, none, 0, Nat.zero_le _, rfl, rfl, Below.refl _ _, HN0.out⟩
        case round =>
          rename World => wq
          obtain ⟨j, a2, c2, hj, rfl, rfl, hB2, ho2⟩ := hrel
          have bx := HBX.out.mono hB2
          by_cases hlt : j < l.length
          · obtain ⟨b, off, rfl, hbl, hcl⟩ := HROW3.out wq hB2 j (by rw [HML.out]; exact hlt)
            have C1 := HM2.out j hlt
            have hlen := range_len f j
            generalize m[j]'(by rw [HML.out]; exact hlt) = sj at *
            have hj0 : (0 : Int) ≤ (j : Int) := by omega
            have hj1 : (j : Int) < (l.length : Int) := by omega
            have K1 := Lib.hid C1
            have b0 := bx.c0; have b4 := bx.lt
            have HBq := Lib.hid hB2
            have HOq := Lib.hid ho2
            clear C1 bx hB2 ho2
            go_wp2_with (go_at_call 93; refine (K1.out _).mono ?_; rintro e w2 ⟨rfl, hb2⟩; refine Hid.out ?_)
            have ho3 := (ownsRow_mono HOq.out hb2).alloc (Obj.cells #[.string (f j)] 41)
            have hB3 := nb (Below.chain HBq.out hb2) (Obj.cells #[.string (f j)] 41)
            have hsz : wc.heap.size ≤ w2.heap.size := (Below.chain HBq.out hb2).size
            have HB3 := Lib.hid hB3
            clear hb2 hcl hbl b0 b4 hB3
            refine Lib.hid ?_
            go_wp2_with (first | (at_builtin; refine wpList_append_rowI rfl (.tmp 45) (.tmp 52) rfl wc.heap.size _ j ((List.range j).map f) hlen (by simp [Act.eval, Act.put]) ho3 (by omega) (by simp; omega) w2.heap.size (f j) (by simp [Act.eval, Act.put]) (by go_cell) ?_; intro g cap w9 hown9 hb9; refine Hid.out ?_) | fail)
            rw [range_snoc] at hown9
            have HN := Lib.hid hown9
            have HB9 := Lib.hid (HB3.out.trans hb9)
            clear hown9 hb9 ho3
            refine Lib.hid ?_
            go_wp2
            go_roundw
            case rel => exact ⟨j + 1, _, cap, by omega, rfl, by go_num, HB9.out, HN.out⟩
            case measure => simp [intOf]; omega
          · have hjn : j = l.length := by omega
            subst hjn
            have b0 := bx.c0; have b1 := bx.c1; have b4 := bx.lt
            have HBq := Lib.hid hB2
            have HOq := Lib.hid ho2
            clear bx hB2 ho2
            go_wp2_with (go_at_call 93; refine (KMK.out _).mono ?_; rintro e w2 ⟨rfl, hb2⟩; refine Hid.out ?_)
            have ho3 := ownsRow_mono HOq.out hb2
            rw [← HML.out, HGM.out] at ho3
            have R3 := Lib.hid ((OutRet.rowT ho3).lower HBC.out.size)
            have HBE := Lib.hid (Below.chain (Below.chain HBC.out HBq.out) hb2)
            have hml := HML.out
            clear hb2 ho3
            refine Lib.hid ?_
            go_wp2
            refine bodyPost_ret (v := .tuple #[.slice a2 l.length c2, .string kk, .string (itN (D l.length))]) (by simp [results, Tryz.results62, go_sem]) rfl ?_
            exact ⟨a2, c2, by rw [hml], R3.out, HBE.out⟩
end Go.Proofs.YtjobmkdaaionlaaGreatDoor

/-
  linear: the reference's Integral.
-/
set_option linter.unusedSimpArgs false
namespace Go.Proofs.YtjobmkdaaionlaaGreatDoor
open Go Go.Proofs Go.RowKit

/-- How many digits the numerator has. -/
def nd (s : ByteArray) : Nat := (Lib.decDigits (rv s).num.natAbs).length
def lg (s : ByteArray) : Bool := decide ((100 : Int) < (nd s : Nat))
theorem short_whole {n : Nat} {s : ByteArray} (h : Good n s) (hd : (rv s).den = 1) : shortS s = !lg s := by
  unfold shortS lg nd
  rw [h.text, shortN_rat]
  unfold shortQ
  rw [hd, show decide ((Lib.decDigits 1).length ≤ 100) = true by kernel_rfl, Bool.and_true]
  by_cases h : (Lib.decDigits (rv s).num.natAbs).length ≤ 100
  · rw [decide_eq_true h]; simp; omega
  · rw [decide_eq_false h]; simp; omega
theorem digits_whole {n : Nat} {s : ByteArray} (h : Good n s) (h0 : 0 < n) (hn : n ≤ 20000) (hd : (rv s).den = 1) (w : World) : Calls Tryz.prog 63 #[.string s] w fun e w' => e = .returned (.int .i64 (nd s : Nat)) ∧ w' = w := by
  have t := (h.num h0).len
  have := refDigitsI (rv s).num w (by omega)
  rwa [h.whole hd] at this
/-- A number among the first ones has too many digits. -/
def bigS (m : List ByteArray) (k d : ByteArray) (j : Nat) : Bool := (lg k || lg d) || (m.take j).any lg
theorem bigS_zero (m : List ByteArray) (k d : ByteArray) : bigS m k d 0 = (lg k || lg d) := by unfold bigS; simp
theorem bigS_next (m : List ByteArray) (k d : ByteArray) (j : Nat) (h : j < m.length) : bigS m k d (j + 1) = (bigS m k d j || lg m[j]) := by
  unfold bigS
  rw [← List.take_append_getElem h, List.any_append]
  simp [Bool.or_assoc]
theorem intO_big (m : List ByteArray) (k d : ByteArray) (hs : ∀ s ∈ (m ++ [k]) ++ [d], shortS s = !lg s) : intO m k d = if bigS m k d m.length = true then .bad 10 else ⟨m, k, d, 0⟩ := by
  unfold intO bigS
  rw [List.take_of_length_le (Nat.le_refl _)]
  have h1 : ((m ++ [k]) ++ [d]).all shortS = !((lg k || lg d) || m.any lg) := by
    rw [List.all_append, List.all_append]
    have e1 : m.all shortS = !m.any lg := by
      rw [Bool.eq_iff_iff]
      simp only [List.all_eq_true, Bool.not_eq_true', List.any_eq_false]
      constructor
      · intro h s q; have := h s q; rw [hs s (by simp [q])] at this; simpa using this
      · intro h s q; rw [hs s (by simp [q])]; simpa using h s q
    rw [e1]
    simp only [List.all_cons, List.all_nil, Bool.and_true]
    rw [hs k (by simp), hs d (by simp)]
    cases lg k <;> cases lg d <;> cases m.any lg <;> rfl
  rw [h1]
  cases ((lg k || lg d) || m.any lg) <;> rfl

set_option maxRecDepth 20000 in
set_option maxHeartbeats 8000000 in
theorem refIntegral (l : List ByteArray) (k : ByteArray) (ao : Option Addr) (c : Nat) (w : World) (hr : SRow w ao c l) (hz : ∀ s ∈ l ++ [k], s.size ≤ 1200000) (hn : l.length ≤ 1200000) :
    Calls Tryz.prog 23 #[.agg #[.slice ao l.length c, .string k]] w (IntRet (intAll l k) w) := by
  have CH := fun (W : World) (hW : Below w.heap.size w W) => refLinCheck l k ao c W (hr.mono hW) (fun s hs => hz s (List.mem_append_left _ hs)) (hz k (by simp)) hn
  have hcs := linE_cases l k
  have X := Bx2.new w (.slice ao l.length c) (.string k) 27
  have B : Below w.heap.size w (w.alloc (Obj.cells #[.slice ao l.length c, .string k] 27)) := (Below.refl _ _).alloc (Nat.le_refl _) _
  have x0 := X.c0; have x1 := X.c1; have x4 := X.lt
  unfold intAll
  by_cases h0 : linE l k = 0
  · rw [if_pos h0]
    obtain ⟨g1, g2⟩ := linE_zero h0
    rw [h0] at CH
    have CS := fun (W : World) (hW : Below w.heap.size w W) => refScaled l k ao c W (hr.mono hW) g1 g2
    have gD : Good 3401 (itN (lcmD (l ++ [k]))) := (lcmD_good (l ++ [k]) g2).mono (by simp; omega)
    have hmap : ∀ s ∈ l ++ [k], Good (100 + 3401) (mulT s (itN (lcmD (l ++ [k])))) ∧ (rv (mulT s (itN (lcmD (l ++ [k]))))).den = 1 := fun s hs => ⟨(g2 s hs).mul gD, mul_whole (lcmD_dvd hs)⟩
    have hall : ∀ s ∈ ((l.map fun s => mulT s (itN (lcmD (l ++ [k])))) ++ [mulT k (itN (lcmD (l ++ [k])))]) ++ [itN (lcmD (l ++ [k]))], Good 3501 s ∧ (rv s).den = 1 := fun s hs => by
      rcases List.mem_append.1 hs with h | h
      · rcases List.mem_append.1 h with h | h
        · obtain ⟨t, ht, rfl⟩ := List.mem_map.1 h
          exact hmap t (List.mem_append_left _ ht)
        · rw [List.mem_singleton.1 h]; exact hmap k (by simp)
      · rw [List.mem_singleton.1 h]
        refine ⟨gD.mono (by omega), ?_⟩
        rw [rv_itN]; rfl
    rw [intO_big _ _ _ (fun s hs => short_whole (hall s hs).1 (hall s hs).2)]
    have CD := fun s hs (W : World) => digits_whole (hall s hs).1 (by decide) (by decide) (hall s hs).2 W
    have hml : (l.map fun s => mulT s (itN (lcmD (l ++ [k])))).length = l.length := by simp
    unfold ScRet at CS
    rw [hml] at CS
    generalize (l.map fun s => mulT s (itN (lcmD (l ++ [k])))) = m at *
    generalize mulT k (itN (lcmD (l ++ [k]))) = kk at *
    generalize itN (lcmD (l ++ [k])) = dd at *
    have CK := CD kk (by simp)
    have CDD := CD dd (by simp)
    have CM : ∀ (j : Nat) (hj : j < m.length) (W : World), Calls Tryz.prog 63 #[.string (m[j]'hj)] W fun e w' => e = .returned (.int .i64 (nd (m[j]'hj) : Nat)) ∧ w' = W := fun j hj W => CD _ (by simp) W
    have hB0 := bigS_zero m kk dd
    have hBn := bigS_next m kk dd
    clear CD hall hmap gD hr hz hcs h0 g2
    generalize hBB : bigS m kk dd = BB at *
    clear hBB
    rw [hml]
    generalize hO : (if BB l.length = true then IOut.bad 10 else ⟨m, kk, dd, 0⟩) = O
    have HO := Lib.hid hO; clear hO
    generalize hnl : l.length = n at *
    have KH := Lib.hid CH; have KS := Lib.hid CS; have KK := Lib.hid CK; have KD := Lib.hid CDD; have KM := Lib.hid CM; have HML := Lib.hid hml; have HB0 := Lib.hid hB0; have HBN := Lib.hid hBn
    clear CH CS CK CDD CM hml hB0 hBn hnl
    have hdk : lg kk = decide ((100 : Int) < (nd kk : Nat)) := rfl
    have hdd : lg dd = decide ((100 : Int) < (nd dd : Nat)) := rfl
    have HDK := Lib.hid hdk; have HDD := Lib.hid hdd
    clear hdk hdd
    generalize nd kk = nk at *
    generalize nd dd = nn at *
    go_enter Tryz.func23, Tryz.ntmps23
    go_wp2_with (go_at_call 27; refine (KH.out _ B).mono ?_; rintro e w1 ⟨rfl, hb1⟩; refine Hid.out ?_)
    have X1 := X.mono hb1; have B1 := Below.chain B hb1
    clear hb1 X B x0 x1 x4
    have x0 := X1.c0; have x1 := X1.c1; have x4 := X1.lt
    refine Lib.hid ?_
    go_wp2_with (go_at_call 62; refine (KS.out _ B1).mono ?_; rintro e w2 ⟨a2, c2, rfl, r2, hb2⟩; refine Hid.out ?_)
    have HBW := Lib.hid (Below.chain B1 hb2)
    have HR2 := Lib.hid (r2.lower B1.size)
    have hrow2 : ∀ t (ht : t < m.length), ∃ b off, a2 = some ⟨b, off, none⟩ ∧ b < w2.heap.size ∧ w2.cell? ⟨b, off + t, none⟩ = some (.string (m[t]'ht)) := fun t ht => r2.1.get t ht
    have HROW := Lib.hid hrow2
    clear hb2 B1 X1 x0 x1 x4 r2 hrow2
    refine Lib.hid ?_
    go_upto_region 5 with fail
    go_cut [10] from 23 to 31 (fun s10 wx => s10 = .bool (BB 0) ∧ wx = w2)
    case first =>
      by_cases h1 : (100 : Int) < (nk : Nat)
      · have hb : BB 0 = true := by rw [HB0.out, HDK.out, decide_eq_true h1]; rfl
        go_wp2_with (go_at_call 63; refine (KK.out _).mono ?_; rintro e w3 ⟨rfl, h⟩; subst h; refine Hid.out ?_)
        refine Lib.hid ?_
        go_wp2_with fail
        go_meet
        exact ⟨by rw [hb], rfl⟩
      · by_cases h2 : (100 : Int) < (nn : Nat)
        · have hb : BB 0 = true := by rw [HB0.out, HDK.out, HDD.out, decide_eq_true h2, Bool.or_true]
          go_wp2_with (go_at_call 63; refine (KK.out _).mono ?_; rintro e w3 ⟨rfl, h⟩; subst h; refine Hid.out ?_)
          refine Lib.hid ?_
          go_wp2_with (go_at_call 63; refine (KD.out _).mono ?_; rintro e w3 ⟨rfl, h⟩; subst h; refine Hid.out ?_)
          refine Lib.hid ?_
          go_wp2_with fail
          go_meet
          exact ⟨by rw [hb], rfl⟩
        · have hb : BB 0 = false := by rw [HB0.out, HDK.out, HDD.out, decide_eq_false h1, decide_eq_false h2]; rfl
          go_wp2_with (go_at_call 63; refine (KK.out _).mono ?_; rintro e w3 ⟨rfl, h⟩; subst h; refine Hid.out ?_)
          refine Lib.hid ?_
          go_wp2_with (go_at_call 63; refine (KD.out _).mono ?_; rintro e w3 ⟨rfl, h⟩; subst h; refine Hid.out ?_)
          refine Lib.hid ?_
          go_wp2_with fail
          go_meet
          exact ⟨by rw [hb, decide_eq_false (p := (100 : Int) < (nk : Nat)) (by omega), decide_eq_false (p := (100 : Int) < (nn : Nat)) (by omega)]; rfl, rfl⟩
    case rest =>
      obtain ⟨rfl, hwc⟩ := hcut
      obtain hwc2 : w2 = wc := hwc.symm
      clear hwc
      subst hwc2
      go_wp2_with fail
      go_loopw [10, 11] (fun sv iv wr => ∃ (j : Nat), j ≤ n ∧ sv = .bool (BB j) ∧ iv = .int .i64 (j : Int) ∧ wr = w2) (fun _ iv _ => n - (intOf iv).toNat)
      case atStart => exact ⟨0, Nat.zero_le _, rfl, rfl, rfl⟩
      case round =>
        obtain ⟨j, hj, rfl, rfl, hwr⟩ := hrel
        obtain hwr2 : w2 = wr := hwr.symm
        clear hwr
        subst hwr2
        by_cases hlt : j < n
        · have hbn := HBN.out j (by rw [HML.out]; exact hlt)
          have hj0 : (0 : Int) ≤ (j : Int) := by omega
          have hj1 : (j : Int) < (n : Int) := by omega
          cases hbj : BB j
          · obtain ⟨b, off, rfl, hbl, hcl⟩ := HROW.out j (by rw [HML.out]; exact hlt)
            have C1 := KM.out j (by rw [HML.out]; exact hlt)
            have hls : lg (m[j]'(by rw [HML.out]; exact hlt)) = decide ((100 : Int) < (nd (m[j]'(by rw [HML.out]; exact hlt)) : Nat)) := rfl
            rw [hbj, Bool.false_or, hls] at hbn
            generalize nd (m[j]'(by rw [HML.out]; exact hlt)) = ns at *
            generalize m[j]'(by rw [HML.out]; exact hlt) = sj at *
            have K1 := Lib.hid C1
            have HQ := Lib.hid hbn
            clear C1 hls hbn hbj
            by_cases h1 : (100 : Int) < (ns : Nat)
            · go_wp2_with (go_at_call 63; refine (K1.out _).mono ?_; rintro e w3 ⟨rfl, h⟩; subst h; refine Hid.out ?_)
              refine Lib.hid ?_
              go_wp2
              go_roundw
              case rel => exact ⟨j + 1, by omega, by rw [HQ.out, decide_eq_true h1], by go_num, by first | rfl | trivial⟩
              case measure => simp [intOf]; omega
            · go_wp2_with (go_at_call 63; refine (K1.out _).mono ?_; rintro e w3 ⟨rfl, h⟩; subst h; refine Hid.out ?_)
              refine Lib.hid ?_
              go_wp2
              go_roundw
              case rel => exact ⟨j + 1, by omega, by rw [HQ.out]; (first | done | rw [decide_eq_false (p := (100 : Int) < (ns : Nat)) (by omega)]), by go_num, by first | rfl | trivial⟩
              case measure => simp [intOf]; omega
          · rw [hbj, Bool.true_or] at hbn
            have HQ := Lib.hid hbn
            clear hbn hbj
            go_wp2
            go_roundw
            case rel => exact ⟨j + 1, by omega, by rw [HQ.out], by go_num, by first | rfl | trivial⟩
            case measure => simp [intOf]; omega
        · have hjn : j = n := by omega
          subst hjn
          cases hbj : BB j
          · go_wp2
            have ho := HO.out
            rw [hbj, if_neg (by decide)] at ho
            subst ho
            refine bodyPost_ret (v := .tuple #[.slice a2 j c2, .string kk, .string dd, .int .i64 0]) (by simp [results, Tryz.results23, go_sem]) rfl ?_
            exact ⟨a2, c2, by rw [HML.out]; rfl, HR2.out, HBW.out⟩
          · go_wp2
            have ho := HO.out
            rw [hbj, if_pos rfl] at ho
            subst ho
            refine bodyPost_ret (v := .tuple #[.slice none 0 0, .string ⟨#[]⟩, .string ⟨#[]⟩, .int .i64 10]) (by simp [results, Tryz.results23, go_sem]) rfl ?_
            exact ⟨none, 0, rfl, RowB.nil _ _, HBW.out⟩
  · rw [if_neg h0]
    clear hr hz hn
    generalize l.length = n at *
    rcases hcs with h | h | h | h
    · exact absurd h h0
    all_goals
      rw [h] at CH ⊢
      clear h h0
      have KH := Lib.hid CH; clear CH
      go_enter Tryz.func23, Tryz.ntmps23
      go_wp2_with (go_at_call 27; refine (KH.out _ B).mono ?_; rintro e w1 ⟨rfl, hb1⟩; refine Hid.out ?_)
      have HBB := Lib.hid (Below.chain B hb1)
      clear hb1 X B x0 x1 x4
      refine Lib.hid ?_
      go_wp2
      refine bodyPost_ret (by simp [results, Tryz.results23, go_sem]; rfl) rfl ?_
      exact ⟨none, 0, rfl, RowB.nil _ _, HBB.out⟩
end Go.Proofs.YtjobmkdaaionlaaGreatDoor

/-
  LinearMakes.
-/
set_option linter.unusedSimpArgs false
namespace Go.Proofs.YtjobmkdaaionlaaGreatDoor
open Go Go.Proofs Go.RowKit

theorem exprO_len (l : List ByteArray) (k : ByteArray) : (exprO l k).l.length ≤ l.length := by
  unfold exprO; split
  · exact Nat.le_refl _
  · exact Nat.zero_le _
end Go.Proofs.YtjobmkdaaionlaaGreatDoor

/-
  linear: Vars in all cases; the reference's Used, Vars.
-/
set_option linter.unusedSimpArgs false
namespace Go.Proofs.YtjobmkdaaionlaaGreatDoor
open Go Go.Proofs Go.RowKit Go.Shelf

attribute [local go_sem] Oper.semAt_some

/-- What Vars answers. -/
def varsI (l : List ByteArray) (k : ByteArray) : Int := if linE l k = 0 then maskOf (nz l) else 0

set_option maxHeartbeats 2000000 in
theorem linVars (l : List ByteArray) (k : ByteArray) (ao : Option Addr) (c : Nat) (w : World) (hr : SRow w ao c l) (hz : ∀ s ∈ l ++ [k], s.size ≤ 1200000) (hn : l.length ≤ 1200000) (htab : Lib.TabIs Tryz.prog w "internal/strconv.uint64pow10" .u64 Lib.pow10Tab) :
    Calls Tryz.prog 24 #[.agg #[.slice ao l.length c, .string k]] w (Bret (.tuple #[.int .i64 (varsI l k), .int .i64 (linE l k : Nat)]) w) := by
  have hT := Lib.tabBelow_of_tabIs htab
  have CH := fun (W : World) (hW : Below w.heap.size w W) => linCheck l k ao c W (hr.mono hW) hz hn (hT.on hW).here
  have hcs := linE_cases l k
  unfold varsI
  by_cases h0 : linE l k = 0
  · rw [if_pos h0, h0]
    exact linVars_good l k ao c w hr hz hn h0 htab
  · rw [if_neg h0]
    have X := Bx2.new w (.slice ao l.length c) (.string k) 27
    have B : Below w.heap.size w (w.alloc (Obj.cells #[.slice ao l.length c, .string k] 27)) := (Below.refl _ _).alloc (Nat.le_refl _) _
    have x0 := X.c0; have x1 := X.c1; have x4 := X.lt
    clear hr hz hn htab hT
    generalize l.length = n at *
    rcases hcs with h | h | h | h
    · exact absurd h h0
    all_goals
      rw [h] at CH ⊢
      clear h h0
      have KH := Lib.hid CH; clear CH
      go_enter Tryz.func24, Tryz.ntmps24
      go_wp2_with (go_at_call 26; refine (KH.out _ B).mono ?_; rintro e w1 ⟨rfl, hb1⟩; refine Hid.out ?_)
      have HB := Lib.hid (Below.chain B hb1)
      clear hb1 X B x0 x1 x4
      refine Lib.hid ?_
      go_wp2
      refine bodyPost_ret (by simp [results, Tryz.results24, go_sem]; rfl) rfl ?_
      exact ⟨rfl, HB.out⟩

theorem wrapI (n : Int) : IntKind.i64.wrap n = Go.RowKit.wrap64 n := by unfold Go.RowKit.wrap64; exact IntKind.wrap_i64 n
theorem maskOf_snoc {n : Nat} (pre : List (Fin n)) (x : Fin n) : maskOf (pre ++ [x]) = bits BinOp.or IntKind.i64 (maskOf pre) (IntKind.i64.wrap (2 ^ x.val)) := by unfold maskOf; rw [List.foldl_append]; rfl

set_option maxHeartbeats 2000000 in
theorem refUsed (l : List ByteArray) (k : ByteArray) (ao : Option Addr) (c : Nat) (w : World) (hr : SRow w ao c l) (hn : l.length ≤ 32) :
    Calls Tryz.prog 65 #[.agg #[.slice ao l.length c, .string k]] w (Bret (.int .i64 (maskOf (nz l))) w) := by
  have X := Bx2.new w (.slice ao l.length c) (.string k) 27
  have B : Below w.heap.size w (w.alloc (Obj.cells #[.slice ao l.length c, .string k] 27)) := (Below.refl _ _).alloc (Nat.le_refl _) _
  have hga : ∀ W, Below w.heap.size w W → ∀ j (hj : j < l.length), ∃ b off, ao = some ⟨b, off, none⟩ ∧ b < W.heap.size ∧ W.cell? ⟨b, off + j, none⟩ = some (.string (l[j]'hj)) := fun W hW => (hr.mono hW).get
  have HA := Lib.hid hga; clear hga hr
  have hend : maskOf (nz l) = maskOf (nzTo l l.length) := rfl
  rw [hend]
  have HEX := Lib.hid X; have HEB := Lib.hid B; clear X B hend
  go_enter Tryz.func65, Tryz.ntmps65
  go_wp2_with fail
  go_loopw [3, 4] (fun sv iv wr => ∃ j : Nat, j ≤ l.length ∧ sv = .int .i64 (maskOf (nzTo l j)) ∧ iv = .int .i64 (j : Int) ∧ Bx2 wr w.heap.size (.slice ao l.length c) (.string k) ∧ Below w.heap.size w wr) (fun _ iv _ => l.length - (intOf iv).toNat)
  case atStart => exact ⟨0, Nat.zero_le _, rfl, rfl, HEX.out, HEB.out⟩
  case round =>
    obtain ⟨j, hj, rfl, rfl, hx, hbw⟩ := hrel
    have x0 := hx.c0; have x1 := hx.c1; have x4 := hx.lt
    have HBW := Lib.hid hbw; have HX := Lib.hid hx
    by_cases hlt : j < l.length
    · obtain ⟨b1, o1, rfl, -, k1⟩ := HA.out wr hbw j hlt
      clear hbw hx
      have hj0 : (0 : Int) ≤ (j : Int) := by omega
      have hj1 : (j : Int) < (l.length : Int) := by omega
      have hj2 : (j : Int) < 64 := by omega
      by_cases hz : l[j] = z0
      · have es := nzTo_zero hlt hz
        rw [hz] at k1
        have e0 : (z0 : ByteArray) = { data := #[48] } := rfl
        have HES := Lib.hid es; clear es hz
        go_wp2
        go_roundw
        case rel => exact ⟨j + 1, by omega, by rw [HES.out], by go_num, HX.out, HBW.out⟩
        case measure => simp [intOf]; omega
      · have es := nzTo_more hlt hz
        have hne : ((l[j]'hlt).toList == [48]) = false := eqLit _ [48] (fun e => hz (by rw [← str_bytes (l[j]'hlt), e]; rfl))
        have hne2 : ((l[j]'hlt).toList != [48]) = true := by unfold bne; rw [hne]; rfl
        have em : maskOf (nzTo l (j + 1)) = bits BinOp.or IntKind.i64 (maskOf (nzTo l j)) (IntKind.i64.wrap (2 ^ j)) := by rw [es, maskOf_snoc]
        have HEM := Lib.hid em; clear es hz em
        generalize maskOf (nzTo l j) = mj at *
        generalize l[j]'hlt = sj at *
        go_wp2
        go_roundw
        case rel => exact ⟨j + 1, by omega, by (rw [HEM.out, wrapI]), by go_num, HX.out, HBW.out⟩
        case measure => simp [intOf]; omega
    · have hjn : j = l.length := by omega
      subst hjn
      clear hbw
      go_wp2
      go_ret
      exact ⟨rfl, HBW.out⟩

set_option maxHeartbeats 2000000 in
theorem refVars (l : List ByteArray) (k : ByteArray) (ao : Option Addr) (c : Nat) (w : World) (hr : SRow w ao c l) (hz : ∀ s ∈ l ++ [k], s.size ≤ 1200000) (hn : l.length ≤ 1200000) :
    Calls Tryz.prog 25 #[.agg #[.slice ao l.length c, .string k]] w (Bret (.tuple #[.int .i64 (varsI l k), .int .i64 (linE l k : Nat)]) w) := by
  have CH := fun (W : World) (hW : Below w.heap.size w W) => refLinCheck l k ao c W (hr.mono hW) (fun s hs => hz s (List.mem_append_left _ hs)) (hz k (by simp)) hn
  have hcs := linE_cases l k
  have X := Bx2.new w (.slice ao l.length c) (.string k) 27
  have B : Below w.heap.size w (w.alloc (Obj.cells #[.slice ao l.length c, .string k] 27)) := (Below.refl _ _).alloc (Nat.le_refl _) _
  have x0 := X.c0; have x1 := X.c1; have x4 := X.lt
  unfold varsI
  by_cases h0 : linE l k = 0
  · rw [if_pos h0]
    have g1 := (linE_zero h0).1
    have CU := fun (W : World) (hW : Below w.heap.size w W) => refUsed l k ao c W (hr.mono hW) g1
    rw [h0] at CH ⊢
    generalize maskOf (nz l) = mm at *
    have KH := Lib.hid CH; have KU := Lib.hid CU; clear CH CU hcs hr hz hn h0 g1
    go_enter Tryz.func25, Tryz.ntmps25
    go_wp2_with (go_at_call 27; refine (KH.out _ B).mono ?_; rintro e w1 ⟨rfl, hb1⟩; refine Hid.out ?_)
    have X1 := X.mono hb1; have B1 := Below.chain B hb1
    clear hb1 X B x0 x1 x4
    have x0 := X1.c0; have x1 := X1.c1; have x4 := X1.lt
    refine Lib.hid ?_
    go_wp2_with (go_at_call 65; refine (KU.out _ B1).mono ?_; rintro e w2 ⟨rfl, hb2⟩; refine Hid.out ?_)
    have HB := Lib.hid (Below.chain B1 hb2)
    clear hb2 X1 B1 x0 x1 x4
    refine Lib.hid ?_
    go_wp2
    refine bodyPost_ret (v := .tuple #[.int .i64 mm, .int .i64 0]) (by simp [results, Tryz.results25, go_sem]) rfl ?_
    exact ⟨rfl, HB.out⟩
  · rw [if_neg h0]
    clear hr hz hn
    generalize l.length = n at *
    rcases hcs with h | h | h | h
    · exact absurd h h0
    all_goals
      rw [h] at CH ⊢
      clear h h0
      have KH := Lib.hid CH; clear CH
      go_enter Tryz.func25, Tryz.ntmps25
      go_wp2_with (go_at_call 27; refine (KH.out _ B).mono ?_; rintro e w1 ⟨rfl, hb1⟩; refine Hid.out ?_)
      have HB := Lib.hid (Below.chain B hb1)
      clear hb1 X B x0 x1 x4
      refine Lib.hid ?_
      go_wp2
      refine bodyPost_ret (by simp [results, Tryz.results25, go_sem]; rfl) rfl ?_
      exact ⟨rfl, HB.out⟩
end Go.Proofs.YtjobmkdaaionlaaGreatDoor

/-
  The law LinearSums.
-/
set_option linter.unusedSimpArgs false
namespace Go.Proofs.YtjobmkdaaionlaaGreatDoor
open Go Go.Proofs Go.RowKit

theorem addO_len (l : List ByteArray) (k : ByteArray) (m : List ByteArray) (k2 : ByteArray) (hl : l.length ≤ 1000) : (addO l k m k2).l.length ≤ 1200000 := by
  unfold addO
  split
  · split
    · refine Nat.le_trans (exprO_len _ _) ?_
      simp
      omega
    · exact Nat.zero_le _
  · exact Nat.zero_le _
theorem intAll_len (l : List ByteArray) (k : ByteArray) (hl : l.length ≤ 1000) : (intAll l k).l.length ≤ 1200000 := by
  unfold intAll intO
  split
  · split
    · simp; omega
    · exact Nat.zero_le _
  · exact Nat.zero_le _

set_option maxRecDepth 20000 in
set_option maxHeartbeats 8000000 in
theorem lsums_walk (l : List ByteArray) (k : ByteArray) (ao : Option Addr) (c : Nat) (m : List ByteArray) (k2 : ByteArray) (bo : Option Addr) (d : Nat) (w : World)
    (hr : SRow w ao c l) (_hz : ∀ s ∈ l ++ [k], s.size ≤ 9223372036854775807) (hn : l.length ≤ 9223372036854775807) (hr2 : SRow w bo d m) (_hz2 : ∀ s ∈ m ++ [k2], s.size ≤ 9223372036854775807) (hn2 : m.length ≤ 9223372036854775807)
    (htab : Lib.TabIs Tryz.prog w "internal/strconv.uint64pow10" .u64 Lib.pow10Tab) :
    Calls Tryz.prog 4 #[.agg #[.slice ao l.length c, .string k], .agg #[.slice bo m.length d, .string k2]] w fun e w' => e = .returned (.bool true) ∧ Below w.heap.size w w' := by
  have hT := Lib.tabBelow_of_tabIs htab
  have CA : ∀ W : World, Below w.heap.size w W → Calls Tryz.prog 13 #[] W (Bret (.bool true) W) := fun W hW => awake03 W (hT.on hW).here
  have CF := fun (W : World) (hW : Below w.heap.size w W) => refFew l k ao c W (hr.mono hW) (by omega)
  have CF2 := fun (W : World) (hW : Below w.heap.size w W) => refFew m k2 bo d W (hr2.mono hW) (by omega)
  obtain ⟨X, Y, B⟩ := entry2 w (.slice ao l.length c) (.string k) (.slice bo m.length d) (.string k2) 27
  have x0 := X.c0; have x1 := X.c1; have x2 := X.lt; have y0 := Y.c0; have y1 := Y.c1; have y2 := Y.lt
  cases hf : fewL l k
  · rw [hf] at CF
    generalize l.length = n at *
    generalize m.length = n2 at *
    have KA := Lib.hid CA; have KF := Lib.hid CF
    clear CA CF CF2 hT htab hr hr2 _hz _hz2 hf
    go_enter Tryz.func4, Tryz.ntmps4
    go_wp2_with (go_at_call 19; refine (KF.out _ B).mono ?_; rintro e w0 ⟨rfl, hb0⟩; refine Hid.out ?_)
    have B0 := Below.chain B hb0; clear hb0 B
    refine Lib.hid ?_
    go_wp2_with (go_at_call 13; refine (KA.out _ B0).mono ?_; rintro e w1 ⟨rfl, hb1⟩; refine Hid.out ?_)
    have B1 := Below.chain B0 hb1; clear hb1 B0
    refine Lib.hid ?_
    go_wp2
    refine bodyPost_ret (v := .bool true) (by simp [results, Tryz.results4, go_sem]) rfl ?_
    exact ⟨rfl, B1⟩
  rw [hf] at CF
  cases hf2 : fewL m k2
  · rw [hf2] at CF2
    generalize l.length = n at *
    generalize m.length = n2 at *
    have KA := Lib.hid CA; have KF := Lib.hid CF; have KF2 := Lib.hid CF2
    clear CA CF CF2 hT htab hr hr2 _hz _hz2 hf hf2
    go_enter Tryz.func4, Tryz.ntmps4
    go_wp2_with (go_at_call 19; refine (KF.out _ B).mono ?_; rintro e w0 ⟨rfl, hb0⟩; refine Hid.out ?_)
    have B0 := Below.chain B hb0; have Y0 := Y.mono hb0
    clear hb0 B X Y x0 x1 x2 y0 y1 y2
    have y0 := Y0.c0; have y1 := Y0.c1; have y2 := Y0.lt
    refine Lib.hid ?_
    go_wp2_with (go_at_call 19; refine (KF2.out _ B0).mono ?_; rintro e w5 ⟨rfl, hb5⟩; refine Hid.out ?_)
    have B5 := Below.chain B0 hb5; clear hb5 B0
    refine Lib.hid ?_
    go_wp2_with (go_at_call 13; refine (KA.out _ B5).mono ?_; rintro e w1 ⟨rfl, hb1⟩; refine Hid.out ?_)
    have B1 := Below.chain B5 hb1; clear hb1 B5
    refine Lib.hid ?_
    go_wp2
    refine bodyPost_ret (v := .bool true) (by simp [results, Tryz.results4, go_sem]) rfl ?_
    exact ⟨rfl, B1⟩
  rw [hf2] at CF2
  obtain ⟨f1, f2⟩ := fewL_spec hf
  obtain ⟨f3, f4⟩ := fewL_spec hf2
  have z1 : ∀ s ∈ l ++ [k], s.size ≤ 1200000 := fun s hs => Nat.le_trans (f2 s hs) (by decide)
  have z2 : ∀ s ∈ m ++ [k2], s.size ≤ 1200000 := fun s hs => Nat.le_trans (f4 s hs) (by decide)
  have C1 := fun (W : World) (hW : Below w.heap.size w W) => linAdd l k ao c m k2 bo d W (hr.mono hW) z1 (by omega) (hr2.mono hW) z2 (by omega) (hT.on hW).here
  have C2 := fun (W : World) (hW : Below w.heap.size w W) => refAddL l k ao c m k2 bo d W (hr.mono hW) z1 (by omega) (hr2.mono hW) z2 (by omega)
  have C3 := fun (W : World) (hW : Below w.heap.size w W) => linIntegral l k ao c W (hr.mono hW) z1 (by omega) (hT.on hW).here
  have C4 := fun (W : World) (hW : Below w.heap.size w W) => refIntegral l k ao c W (hr.mono hW) z1 (by omega)
  have C5 := fun (W : World) (hW : Below w.heap.size w W) => linVars l k ao c W (hr.mono hW) z1 (by omega) (hT.on hW).here
  have C6 := fun (W : World) (hW : Below w.heap.size w W) => refVars l k ao c W (hr.mono hW) z1 (by omega)
  have C7 := fun (W : World) (hW : Below w.heap.size w W) => linCheck l k ao c W (hr.mono hW) z1 (by omega) (hT.on hW).here
  have C8 := fun (W : World) (hW : Below w.heap.size w W) => refLinCheck l k ao c W (hr.mono hW) (fun s hs => z1 s (List.mem_append_left _ hs)) (z1 k (by simp)) (by omega)
  have L1 := addO_len l k m k2 (by omega)
  have L2 := intAll_len l k (by omega)
  generalize addO l k m k2 = O1 at *
  generalize intAll l k = I1 at *
  generalize varsI l k = vi at *
  generalize linE l k = ve at *
  clear f1 f2 f3 f4 hf hf2 z1 z2
  generalize l.length = n at *
  generalize m.length = n2 at *
  have KA := Lib.hid CA; have KF := Lib.hid CF; have KF2 := Lib.hid CF2; have K1 := Lib.hid C1; have K2 := Lib.hid C2; have K3 := Lib.hid C3; have K4 := Lib.hid C4; have K5 := Lib.hid C5; have K6 := Lib.hid C6; have K7 := Lib.hid C7; have K8 := Lib.hid C8; have KL1 := Lib.hid L1; have KL2 := Lib.hid L2
  clear CA CF CF2 C1 C2 C3 C4 C5 C6 C7 C8 L1 L2 hT htab hr hr2 _hz _hz2
  go_enter Tryz.func4, Tryz.ntmps4
  go_wp2_with (go_at_call 19; refine (KF.out _ B).mono ?_; rintro e w0 ⟨rfl, hb0⟩; refine Hid.out ?_)
  have B0 := Below.chain B hb0; have Y0 := Y.mono hb0; have X0 := X.mono hb0
  clear hb0 B X Y x0 x1 x2 y0 y1 y2
  have y0 := Y0.c0; have y1 := Y0.c1; have y2 := Y0.lt
  refine Lib.hid ?_
  go_wp2_with (go_at_call 19; refine (KF2.out _ B0).mono ?_; rintro e w5 ⟨rfl, hb5⟩; refine Hid.out ?_)
  have B5 := Below.chain B0 hb5; have Y5 := Y0.mono hb5; have X5 := X0.mono hb5
  clear hb5 B0 X0 Y0 y0 y1 y2
  have x0 := X5.c0; have x1 := X5.c1; have x2 := X5.lt; have y0 := Y5.c0; have y1 := Y5.c1; have y2 := Y5.lt
  refine Lib.hid ?_
  go_wp2_with (go_at_call 20; refine (K1.out _ B5).mono ?_; rintro e w1 ⟨a1, c1, rfl, r1, hb1⟩; refine Hid.out ?_)
  have P1 := OB.new r1 27
  have N1 := nb hb1 (Obj.cells #[.slice a1 O1.l.length c1, .string O1.k] 27)
  have B1 := Below.chain B5 N1; have X1 := X5.mono N1; have Y1 := Y5.mono N1
  clear r1 hb1 B5 X5 Y5 x0 x1 x2 y0 y1 y2 N1
  have x0 := X1.c0; have x1 := X1.c1; have x2 := X1.lt; have y0 := Y1.c0; have y1 := Y1.c1; have y2 := Y1.lt
  refine Lib.hid ?_
  go_wp2_with (go_at_call 21; refine (K2.out _ B1).mono ?_; rintro e w2 ⟨a2, c2, rfl, r2, hb2⟩; refine Hid.out ?_)
  have N2 := nb hb2 (Obj.cells #[.slice a2 O1.l.length c2, .string O1.k] 27)
  have Q1 := P1.mono N2; have X2 := X1.mono N2
  have Q2 := OB.new r2 27
  have B2 := Below.chain B1 N2
  clear r2 hb2 P1 B1 X1 Y1 x0 x1 x2 y0 y1 y2 N2
  have x0 := X2.c0; have x1 := X2.c1; have x2 := X2.lt
  refine Lib.hid ?_
  go_wp2_with (go_at_call 22; refine (K3.out _ B2).mono ?_; rintro e w3 ⟨a3, c3, rfl, r3, hb3⟩; refine Hid.out ?_)
  have R1 := Q1.mono hb3; have R2 := Q2.mono hb3; have X3 := X2.mono hb3; have B3 := Below.chain B2 hb3
  have r3' := r3.1
  clear hb3 Q1 Q2 X2 B2 x0 x1 x2 r3
  have x0 := X3.c0; have x1 := X3.c1; have x2 := X3.lt
  refine Lib.hid ?_
  go_wp2_with (go_at_call 23; refine (K4.out _ B3).mono ?_; rintro e w4 ⟨a4, c4, rfl, r4, hb4⟩; refine Hid.out ?_)
  have Q1 := R1.mono hb4; have Q2 := R2.mono hb4; have X4 := X3.mono hb4; have B4 := Below.chain B3 hb4
  have s3 := r3'.mono hb4; have s4 := r4.1
  clear hb4 R1 R2 X3 B3 x0 x1 x2 r3' r4
  have x0 := X4.c0; have x1 := X4.c1; have x2 := X4.lt
  refine Lib.hid ?_
  go_wp2_with (go_at_call 24; refine (K5.out _ B4).mono ?_; rintro e w6 ⟨rfl, hb6⟩; refine Hid.out ?_)
  have R1 := Q1.mono hb6; have R2 := Q2.mono hb6; have X6 := X4.mono hb6; have B6 := Below.chain B4 hb6
  have t3 := s3.mono hb6; have t4 := s4.mono hb6
  clear hb6 Q1 Q2 X4 B4 x0 x1 x2 s3 s4
  have x0 := X6.c0; have x1 := X6.c1; have x2 := X6.lt
  refine Lib.hid ?_
  go_wp2_with (go_at_call 25; refine (K6.out _ B6).mono ?_; rintro e w7 ⟨rfl, hb7⟩; refine Hid.out ?_)
  have Q1 := R1.mono hb7; have Q2 := R2.mono hb7; have X7 := X6.mono hb7; have B7 := Below.chain B6 hb7
  have s3 := t3.mono hb7; have s4 := t4.mono hb7
  clear hb7 R1 R2 X6 B6 x0 x1 x2 t3 t4
  have KST : ∀ W, Below w7.heap.size w7 W → ((W.cell? ⟨w.heap.size, 0, none⟩ = some (.slice ao n c) ∧ W.cell? ⟨w.heap.size, 1, none⟩ = some (.string k)) ∧ (W.cell? ⟨w1.heap.size, 0, none⟩ = some (.slice a1 O1.l.length c1) ∧ W.cell? ⟨w1.heap.size, 1, none⟩ = some (.string O1.k)) ∧ (W.cell? ⟨w2.heap.size, 0, none⟩ = some (.slice a2 O1.l.length c2) ∧ W.cell? ⟨w2.heap.size, 1, none⟩ = some (.string O1.k))) := fun W hW =>
    ⟨⟨(X7.mono hW).c0, (X7.mono hW).c1⟩, ⟨(Q1.mono hW).x.c0, (Q1.mono hW).x.c1⟩, ⟨(Q2.mono hW).x.c0, (Q2.mono hW).x.c1⟩⟩
  have KSM : ∀ W, Below w7.heap.size w7 W → Calls Tryz.prog 18 #[.agg #[.slice a1 O1.l.length c1, .string O1.k], .agg #[.slice a2 O1.l.length c2, .string O1.k]] W (Bret (.bool true) W) := fun W hW => sameLin O1.l O1.k a1 a2 c1 c2 W (Q1.mono hW).r (Q2.mono hW).r KL1.out
  have KSI : ∀ W, Below w7.heap.size w7 W → Calls Tryz.prog 28 #[.slice a3 I1.l.length c3, .slice a4 I1.l.length c4] W (Bret (.bool true) W) := fun W hW => sameInts I1.l a3 a4 c3 c4 W (s3.mono hW) (s4.mono hW) KL2.out
  have HST := Lib.hid KST; have HSM := Lib.hid KSM; have HSI := Lib.hid KSI; have HB7 := Lib.hid B7
  clear KST KSM KSI B7 X7 Q1 Q2 s3 s4
  refine Lib.hid ?_
  go_upto_region 9 with fail
  go_cut [91] from 66 to 90 (fun s91 wc => s91 = .bool false ∧ Below w7.heap.size w7 wc)
  case first =>
    rename_i J K' hJ hK'
    have NW : Below w7.heap.size w7 w7.drew := (Below.refl _ _).drew
    go_region_held3 (fun w' => ((w'.cell? ⟨w.heap.size, 0, none⟩ = some (.slice ao n c) ∧ w'.cell? ⟨w.heap.size, 1, none⟩ = some (.string k)) ∧ (w'.cell? ⟨w1.heap.size, 0, none⟩ = some (.slice a1 O1.l.length c1) ∧ w'.cell? ⟨w1.heap.size, 1, none⟩ = some (.string O1.k)) ∧ (w'.cell? ⟨w2.heap.size, 0, none⟩ = some (.slice a2 O1.l.length c2) ∧ w'.cell? ⟨w2.heap.size, 1, none⟩ = some (.string O1.k))))
      (first | exact HST.out _ NW)
      (first
      | (go_at_call 26; (with_reducible refine (K7.out _ (Below.chain HB7.out NW)).mono ?_); rintro e wf ⟨rfl, hf⟩; have NW : Below w7.heap.size w7 wf := Below.chain NW hf)
      | (go_at_call 27; (with_reducible refine (K8.out _ (Below.chain HB7.out NW)).mono ?_); rintro e wf ⟨rfl, hf⟩; have NW : Below w7.heap.size w7 wf := Below.chain NW hf)
      | (go_at_call 18; (with_reducible refine (HSM.out _ NW).mono ?_); rintro e wf ⟨rfl, hf⟩; have NW : Below w7.heap.size w7 wf := Below.chain NW hf)
      | fail)
    all_goals
      refine hK' _ _ ?_
      refine Met.intro ?_
      refine hJ _ _ ?_
      (repeat apply Exists.intro)
      refine ⟨?_, rfl⟩
    all_goals exact ⟨rfl, NW⟩
  case rest =>
    obtain ⟨rfl, hBc⟩ := hcut
    have B8 := Below.chain HB7.out hBc
    have C9 := HSI.out _ hBc
    have K9 := Lib.hid C9
    clear C9
    go_wp2_with (go_at_call 28; refine K9.out.mono ?_; rintro e w8 ⟨rfl, hb8⟩; refine Hid.out ?_)
    have B9 := Below.chain B8 hb8; clear hb8 B8
    refine Lib.hid ?_
    go_wp2_with (go_at_call 13; refine (KA.out _ B9).mono ?_; rintro e w9 ⟨rfl, hb9⟩; refine Hid.out ?_)
    have B10 := Below.chain B9 hb9; clear hb9 B9
    refine Lib.hid ?_
    go_wp2
    refine bodyPost_ret (v := .bool true) (by simp [results, Tryz.results4, go_sem]) rfl ?_
    exact ⟨rfl, B10⟩
end Go.Proofs.YtjobmkdaaionlaaGreatDoor

