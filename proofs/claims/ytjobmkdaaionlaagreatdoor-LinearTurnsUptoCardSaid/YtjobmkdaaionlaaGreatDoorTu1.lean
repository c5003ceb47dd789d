import Derived.Test.YtjobmkdaaionlaaGreatDoorCut14
import Derived.Test.YtjobmkdaaionlaaGreatDoorRows
import Derived.LaidMore
import Derived.LaidLaws
import Derived.LaidHandle
import Derived.MakeChecks
import Derived.Stop.Joined
import Derived.Stop.LaidErr
import Derived.OpenShut
import Derived.ProofKit
import Derived.DataShut
import Derived.Test.YtjobmkdaaionlaaGreatDoorCut30
import Derived.Test.YtjobmkdaaionlaaGreatDoorCut28
import Derived.Test.YtjobmkdaaionlaaGreatDoorCut34
import Derived.Test.YtjobmkdaaionlaaGreatDoorCut32
import Derived.Deep.RegionLawGrows
import Derived.Deep.RegionHeld3
import Derived.Sort.CutIn
import Derived.Stop.RegionWithIn
import Derived.Test.YtjobmkdaaionlaaGreatDoorCut33
import Derived.Test.YtjobmkdaaionlaaGreatDoorCut35
import Derived.JoinedCond
import Derived.Test.YtjobmkdaaionlaaGreatDoorCut36

set_option linter.unusedVariables false
/-
  What the rows' condition on the listed variables gives, and a world that meets it.
-/
namespace Go.Proofs.YtjobmkdaaionlaaGreatDoor
open Go Go.Proofs Go.RowKit

theorem u8_bounds {a : Int} (h : (Lit.int .u8 a).wf = true) : 0 ≤ a ∧ a ≤ 255 := (Lit.wf_int_iff .u8 a).1 h
end Go.Proofs.YtjobmkdaaionlaaGreatDoor

/-
  linear: texts of numbers, their sums and products.
-/
namespace Go.Proofs.YtjobmkdaaionlaaGreatDoor
open Go Go.Proofs Go.RowKit

theorem rv_add (s t : ByteArray) : rv (addT s t) = rv s + rv t := rv_tq _
theorem rv0 : rv ⟨#[48]⟩ = 0 := by rw [← tq0]; exact rv_tq 0
end Go.Proofs.YtjobmkdaaionlaaGreatDoor

/-
  linear: Rename.
-/
set_option linter.unusedSimpArgs false
namespace Go.Proofs.YtjobmkdaaionlaaGreatDoor
open Go Go.Proofs Go.RowKit Go.Shelf

def renO (l : List ByteArray) (k : ByteArray) (ts : List Int) (n : Int) : LOut :=
  if linE l k = 0 then (if sizeB n = true then (if ts.length = l.length then (if ts.all (fun t => decide (0 ≤ t) && decide (t < n)) = true then exprO (movL l ts n.toNat (nz l)) k else .bad 6) else .bad 15) else .bad 2) else .bad (linE l k)

end Go.Proofs.YtjobmkdaaionlaaGreatDoor

/-
  The second form of a row: a condition of the specification's own beside the listed variables; what the bulk says of strings and rows.
-/
namespace Go.Proofs.YtjobmkdaaionlaaGreatDoor
open Go Go.Proofs Go.RowKit Go.ChangeShapes Go.WideShapes Go.ChangeMaps

section
variable {H : Type} {enc : TypeId × Value → H} {P : Program} {w : World}

/-- A world and arguments in which a specification's condition holds, as a test. -/
def condB (enc : TypeId × Value → H) (P : Program) (f : Func) (s : Go.OpenSpec) (k : (H : Type) → List (DataW H) → Bool) (w : World) (args : Array Value) (fuel : Nat) : Bool :=
  match DataW.whole enc P w f.params.toList s.vars false args.toList fuel with
  | some x => k H (x.1 ++ x.2.1)
  | none => false
theorem pre_of_condB {f : Func} {s : Go.OpenSpec} {k : (H : Type) → List (DataW H) → Bool} (hk : s.cond = some k) {args : Array Value} {fuel : Nat} (h : condB enc P f s k w args fuel = true) : s.pre enc P f [] false w args := by
  rw [OpenSpec.pre_some hk]
  unfold condB at h
  split at h
  · rename_i x hx
    exact ⟨x.1, x.2.1, x.2.2, DataW.Whole_of_whole hx, rfl, h⟩
  · cases h

theorem upto_lift {C : Checked} {os : Os} {f : FuncId} {fn : Func} {s : Go.OpenSpec} {k : (H : Type) → List (DataW H) → Bool} (hk : s.cond = some k) {F : Stop.Interp} {X : World → Prop}
    (hX : ∀ v v' : World, v.heap = v'.heap → X v → X v') (hown : ownKnob C.prog.godebug = none) (started : os.Started) (noInit : C.prog.inits.idxOf? f = none) (hfn : C.prog.funcs[f]? = some fn)
    (w0 : World) (wargs : Array Value) (fuel : Nat) (hos : w0.os = os) (hsh : (w0.forCall (fun _ _ => 0) ⟨#[], wargs, []⟩).Shaped C.prog)
    (hok : Input.okWideB C.prog (w0.forCall (fun _ _ => 0) ⟨#[], wargs, []⟩) f ⟨#[], wargs, []⟩ = true)
    (hcb : condB enc C.prog fn s k (w0.forCall (fun _ _ => 0) ⟨#[], wargs, []⟩).memory wargs fuel = true)
    (hsz : s.bare.sizedB enc C.prog fn false (w0.forCall (fun _ _ => 0) ⟨#[], wargs, []⟩).memory wargs fuel = true)
    (hx0 : X (w0.forCall (fun _ _ => 0) ⟨#[], wargs, []⟩).memory)
    (contract : ∀ (W : World) (base : Nat) (args : Array Value) (ds gs : List (DataW H)) (before : List MemPlace),
      (∀ (j : Nat) t v, fn.params[j]? = some t → args[j]? = some v → Value.okWide C.prog W .any base t v) →
      DataW.Whole enc C.prog fn.params.toList s.vars false W args.toList ds gs before → k H (ds ++ gs) = true → X W →
      Calls C.prog f args W fun e W' => ∃ v, e = .returned v ∧ (s.at F).post enc C.prog fn false true false false W args v W') :
    ReturnsInHanded {} C os f .any (fun v args => (s.pre enc C.prog fn [] false v args ∧ X v) ∧ sizedMet enc C.prog fn s false v args) ((s.at F).post enc C.prog fn false true false false) := by
  refine returnsInHanded_of_calls hown started noInit ⟨w0, fun _ _ => 0, ⟨#[], wargs, []⟩, hos, hsh, (Input.okWide_of_okWideB (base := 0) hok).1, (Input.okWide_of_okWideB hok).2, ⟨⟨pre_of_condB hk hcb, hx0⟩, ?_⟩, ?_⟩ ?_
  · exact sizedMet_of_sizedB hsz
  · simp only [Assume.holds]
    exact ⟨by simp, by simp, by simp, by simp, by simp⟩
  · intro v tape i _ _ _ hin hpre _
    obtain ⟨_, _, _, g, hg, _, _, _, _, hval⟩ := hin
    obtain rfl : g = fn := Option.some.inj (hg.symm.trans hfn)
    obtain ⟨⟨hp, hx⟩, -⟩ := hpre
    obtain ⟨ds, gs, before, hw, -, hkk⟩ := (OpenSpec.pre_some hk _ _ _ _).1 hp
    refine (contract (v.forCall tape i) v.heap.size i.args ds gs before hval (DataW.Whole.of_heap (by rfl) hw) hkk (hX _ _ (by rfl) hx)).mono fun e W' ⟨r, he, hq⟩ => ?_
    subst he
    exact ChangeSpec.post_blind hq

theorem bulk_lit (bs : List UInt8) : Rows.uptoBulk (.lit (.string bs) : DataW H) = bs.length + 1 := by simp [Rows.uptoBulk]
theorem bulk_cons (d : DataW H) (l : List (DataW H)) : Rows.uptoBulkAll (d :: l) = Rows.uptoBulk d + Rows.uptoBulkAll l := by simp [Rows.uptoBulkAll]
theorem bulk_nil : Rows.uptoBulkAll ([] : List (DataW H)) = 0 := by simp [Rows.uptoBulkAll]
theorem bulk_agg (l : List (DataW H)) : Rows.uptoBulk (.agg l : DataW H) = Rows.uptoBulkAll l + 1 := by simp [Rows.uptoBulk]
theorem bulk_slice (l r : List (DataW H)) : Rows.uptoBulk (.slice l r : DataW H) = Rows.uptoBulkAll l + Rows.uptoBulkAll r + 1 := by simp [Rows.uptoBulk]
theorem bulk_strs : ∀ l : List ByteArray, l.length ≤ Rows.uptoBulkAll (strs l : List (DataW H)) ∧ ∀ s ∈ l, s.size ≤ Rows.uptoBulkAll (strs l : List (DataW H))
  | [] => ⟨Nat.zero_le _, fun s h => by cases h⟩
  | a :: l => by
    obtain ⟨h1, h2⟩ := bulk_strs l
    have e : Rows.uptoBulkAll (strs (a :: l) : List (DataW H)) = a.size + 1 + Rows.uptoBulkAll (strs l : List (DataW H)) := by
      show Rows.uptoBulkAll (.lit (.string a.data.toList) :: strs l : List (DataW H)) = _
      rw [bulk_cons, bulk_lit]
      rfl
    rw [e]
    refine ⟨by simp; omega, fun s h => ?_⟩
    rcases List.mem_cons.1 h with rfl | h
    · omega
    · have := h2 s h; omega

theorem SRow.open_upto {t e : TypeId} {fuel : Nat} {v : Value} {x : DataW H × List MemPlace} (ht : P.underlying t = some (.slice e)) (he : P.underlying e = some .string) (hc : P.cellsOf e = 1)
    (h : DataW.trod enc P w 0 (fun _ => true) true fuel t [v] = some x) : ∃ (ao : Option Addr) (c : Nat) (l : List ByteArray), v = .slice ao l.length c ∧ SRow w ao c l ∧ (∀ s ∈ l, s.size ≤ Rows.uptoBulk x.1) ∧ l.length ≤ Rows.uptoBulk x.1 := by
  rcases open_strings ht he hc h with ⟨hcs, -⟩ | ⟨a, len, cap, ss, hcs, -, hl, hm, hz, rfl, hcell, hsz⟩
  · cases hcs
    exact ⟨none, 0, [], rfl, SRow.nil w, by simp, by simp⟩
  · cases hcs
    simp only [if_true] at hz
    have hm' : cap ≤ 9223372036854775807 := hm
    have e1 : (ss.take len).length = len := by rw [List.length_take]; omega
    obtain ⟨b1, b2⟩ := bulk_strs (H := H) (ss.take len)
    rw [bulk_slice]
    refine ⟨some a, cap, ss.take len, by rw [e1], ⟨by rw [e1]; exact hl, hm', ?_⟩, fun s hs => by have := b2 s hs; omega, by omega⟩
    rcases Nat.eq_zero_or_pos len with h0 | h0
    · subst h0
      exact .inl ⟨by simp, fun h => by cases h⟩
    · have c0 := hcell 0 (by omega)
      obtain ⟨b, off, sp⟩ := a
      have hsp : sp = none := by
        cases sp with
        | none => rfl
        | some q =>
          simp only [Addr.add, World.cell?] at c0
          split at c0 <;> simp at c0
      subst hsp
      refine .inr ⟨b, off, rfl, ?_, fun k hk => ?_⟩
      · simp only [Addr.add, World.cell?] at c0
        split at c0
        · rename_i hh
          exact (Array.getElem?_eq_some_iff.1 hh).1
        · cases c0
      · rw [e1] at hk
        have := hcell k (by omega)
        have hk2 : k < ss.length := by omega
        rw [List.getD_eq_getElem?_getD, List.getElem?_eq_getElem hk2] at this
        rw [List.getElem_take]
        rw [addr_add] at this
        exact this
theorem open_linear_upto {r : Reach} {b0 : Nat} {t e : TypeId} {f0 f1 : Field} {v : Value} {d : DataW H} {ps : List MemPlace} (ht : P.underlying t = some (.struct #[f0, f1])) (hone : Go.Deep.oneCellFields P #[f0, f1] = true) (hC : P.cellsOf t = 2)
    (h0 : P.underlying f0.type = some (.slice e)) (he : P.underlying e = some .string) (hc : P.cellsOf e = 1) (h1 : P.underlying f1.type = some .string)
    (hv : Value.okWide P w r b0 t v) (h : DataW.Trod enc P w 0 (fun _ => true) true t v d ps) :
    ∃ (ao : Option Addr) (c : Nat) (l : List ByteArray) (k : ByteArray), v = .agg #[.slice ao l.length c, .string k] ∧ SRow w ao c l ∧ (∀ s ∈ l ++ [k], s.size ≤ Rows.uptoBulk d) ∧ l.length ≤ Rows.uptoBulk d := by
  obtain ⟨v0, v1, y0, y1, n, rfl, rfl, -, g0, g1⟩ := Go.Joins.open_agg2 ht hone hC hv h
  obtain ⟨ao, c, l, rfl, r, hs, hl⟩ := SRow.open_upto h0 he hc g0
  obtain ⟨k, e1, e2, k1⟩ := DataW.trod_string h1 g1
  cases e1
  subst e2
  rw [bulk_agg, bulk_cons, bulk_cons, bulk_nil, bulk_lit]
  refine ⟨ao, c, l, k, rfl, r, fun s h => ?_, by omega⟩
  rcases List.mem_append.1 h with q | q
  · have := hs s q; omega
  · rw [List.mem_singleton.1 q]
    have e : k.data.toList.length = k.size := rfl
    omega
theorem open_rats_upto {r : Reach} {b0 : Nat} {t e : TypeId} {v : Value} {d : DataW H} {ps : List MemPlace} (ht : P.underlying t = some (.slice e)) (he : P.underlying e = some .string) (hc : P.cellsOf e = 1)
    (hv : Value.okWide P w r b0 t v) (h : DataW.Trod enc P w 0 (fun _ => true) true t v d ps) :
    ∃ (ao : Option Addr) (c : Nat) (l : List ByteArray), v = .slice ao l.length c ∧ SRow w ao c l ∧ (∀ s ∈ l, s.size ≤ Rows.uptoBulk d) ∧ l.length ≤ Rows.uptoBulk d := by
  obtain ⟨a, n, c, rfl⟩ := okWide_slice ht hv
  obtain ⟨fuel, hf⟩ := h
  exact SRow.open_upto ht he hc (by simpa [Value.cells] using hf)
end
end Go.Proofs.YtjobmkdaaionlaaGreatDoor

/-
  Mathematics: where a sum of products of short numbers becomes too long on the way, the whole sum isn't short.
-/
set_option linter.unusedSimpArgs false
namespace Go.Proofs.YtjobmkdaaionlaaGreatDoor
open Go Go.Proofs Go.RowKit

theorem den_add_dvd (p q : Rat) : (p + q).den ∣ p.den * q.den := by
  rw [← divInt_add p q, Rat.den_divInt, if_neg (den_mul_ne p q)]
  have e : ((p.den : Int) * q.den).natAbs = p.den * q.den := by rw [Int.natAbs_mul, Int.natAbs_natCast, Int.natAbs_natCast]
  rw [e]
  refine Nat.div_dvd_of_dvd ?_
  have := Int.gcd_dvd_natAbs_left ((p.den : Int) * q.den) (p.num * q.den + q.num * p.den)
  rwa [e] at this
theorem den_add_le (p q : Rat) : (p + q).den ≤ p.den * q.den := Nat.le_of_dvd (Nat.mul_pos p.den_pos q.den_pos) (den_add_dvd p q)
/-- The magnitude is at most M. -/
def Mag (M : Nat) (q : Rat) : Prop := q.num.natAbs ≤ M * q.den
theorem Mag.add {M N : Nat} {p q : Rat} (hp : Mag M p) (hq : Mag N q) : Mag (M + N) (p + q) := by
  unfold Mag at *
  have h0 : (((p + q).den : Nat) : Int) ≠ 0 := by have := (p + q).den_nz; omega
  have e := divInt_add p q
  rw [← Rat.num_divInt_den (p + q), Rat.divInt_eq_divInt_iff (den_mul_ne p q) h0] at e
  have e2 := congrArg Int.natAbs e
  rw [Int.natAbs_mul, Int.natAbs_mul, Int.natAbs_mul, Int.natAbs_natCast, Int.natAbs_natCast, Int.natAbs_natCast] at e2
  have h1 : (p.num * q.den + q.num * p.den).natAbs ≤ (M + N) * (p.den * q.den) := by
    refine Nat.le_trans (Int.natAbs_add_le _ _) ?_
    rw [Int.natAbs_mul, Int.natAbs_mul, Int.natAbs_natCast, Int.natAbs_natCast, Nat.add_mul]
    refine Nat.add_le_add ?_ ?_
    · rw [← Nat.mul_assoc]; exact Nat.mul_le_mul_right _ hp
    · rw [Nat.mul_comm p.den, ← Nat.mul_assoc]; exact Nat.mul_le_mul_right _ hq
  have h2 : (p + q).num.natAbs * (p.den * q.den) ≤ ((M + N) * (p + q).den) * (p.den * q.den) := by
    rw [← e2, Nat.mul_right_comm]
    exact Nat.mul_le_mul_right _ h1
  exact Nat.le_of_mul_le_mul_right h2 (Nat.mul_pos p.den_pos q.den_pos)
theorem Mag.mono {M N : Nat} {q : Rat} (h : Mag M q) (hm : M ≤ N) : Mag N q := Nat.le_trans h (Nat.mul_le_mul_right _ hm)
theorem Mag.of {k : Nat} {q : Rat} (h : RZ k q) : Mag (10 ^ k) q := by
  unfold Mag
  have h1 := h.num
  unfold Sz at h1
  exact Nat.le_trans (Nat.le_of_lt h1) (Nat.le_mul_of_pos_right _ q.den_pos)
section
variable {α : Type} (f : α → Rat)
/-- A sum of terms on top of a. -/
def sumF (a : Rat) (pre : List α) : Rat := pre.foldl (fun v x => v + f x) a
theorem sumF_cons (a : Rat) (x : α) (pre : List α) : sumF f a (x :: pre) = sumF f (a + f x) pre := rfl
theorem sumF_append (a : Rat) (s t : List α) : sumF f a (s ++ t) = sumF f (sumF f a s) t := List.foldl_append ..
theorem sumF_zero : ∀ (pre : List α) (a : Rat), sumF f a pre = a + sumF f 0 pre
  | [], a => (Rat.add_zero a).symm
  | x :: pre, a => by rw [sumF_cons, sumF_cons, sumF_zero pre (a + f x), sumF_zero pre (0 + f x), Rat.zero_add, Rat.add_assoc]
theorem sumF_den {k : Nat} : ∀ (pre : List α) (a : Rat), (∀ x ∈ pre, RZ k (f x)) → (sumF f a pre).den ≤ a.den * 10 ^ (k * pre.length)
  | [], a, _ => by simp [sumF]
  | x :: pre, a, h => by
    rw [sumF_cons]
    refine Nat.le_trans (sumF_den pre (a + f x) (fun y hy => h y (List.mem_cons_of_mem _ hy))) ?_
    have hx := (h x (List.mem_cons_self ..)).den
    unfold Sz at hx
    rw [Int.natAbs_natCast] at hx
    have h1 : (a + f x).den ≤ a.den * 10 ^ k := Nat.le_trans (den_add_le _ _) (Nat.mul_le_mul_left _ (Nat.le_of_lt hx))
    rw [List.length_cons, Nat.mul_succ, Nat.add_comm, Nat.pow_add, ← Nat.mul_assoc]
    exact Nat.mul_le_mul_right _ h1
theorem sumF_mag {k : Nat} : ∀ (pre : List α) (a : Rat) (A : Nat), Mag A a → (∀ x ∈ pre, RZ k (f x)) → Mag (A + pre.length * 10 ^ k) (sumF f a pre)
  | [], a, A, ha, _ => by simpa [sumF] using ha
  | x :: pre, a, A, ha, h => by
    rw [sumF_cons]
    have := sumF_mag pre (a + f x) (A + 10 ^ k) (ha.add (Mag.of (h x (List.mem_cons_self ..)))) (fun y hy => h y (List.mem_cons_of_mem _ hy))
    refine this.mono ?_
    rw [List.length_cons, Nat.succ_mul]
    omega
end
theorem fits_lt {z : Int} {k : Nat} (h : z.natAbs < 10 ^ k) (h0 : 0 < k) (hk : k ≤ 4096) : Fits z := Nat.not_lt.2 (Nat.le_trans (decDigits_length_le _ k h0 h) hk)
theorem addF_small {p q : Rat} {a b k : Nat} (ha : p.num.natAbs < 10 ^ a) (hb : p.den < 10 ^ b) (hq : RZ k q) (h1 : 0 < k) (h2 : a + k + 1 ≤ 4096) (h3 : b + k ≤ a + k) : addF p q = true := by
  have hn := hq.num; have hd := hq.den
  unfold Sz at hn hd
  rw [Int.natAbs_natCast] at hd
  have m1 : (p.num * q.den).natAbs < 10 ^ (a + k) := by rw [Int.natAbs_mul, Int.natAbs_natCast, Nat.pow_add]; exact Nat.mul_lt_mul'' ha hd
  have m2 : (q.num * p.den).natAbs < 10 ^ (a + k) := by
    rw [Int.natAbs_mul, Int.natAbs_natCast, Nat.mul_comm]
    refine Nat.lt_of_lt_of_le (Nat.mul_lt_mul'' hb hn) ?_
    rw [← Nat.pow_add]
    exact Nat.pow_le_pow_right (by decide) h3
  have m3 : (p.num * q.den + q.num * p.den).natAbs < 10 ^ (a + k + 1) := by
    refine Nat.lt_of_le_of_lt (Int.natAbs_add_le _ _) ?_
    rw [Nat.pow_succ]
    omega
  have m4 : ((p.den : Int) * q.den).natAbs < 10 ^ (a + k) := by
    rw [Int.natAbs_mul, Int.natAbs_natCast, Int.natAbs_natCast]
    refine Nat.lt_of_lt_of_le (Nat.mul_lt_mul'' hb hd) ?_
    rw [← Nat.pow_add]
    exact Nat.pow_le_pow_right (by decide) h3
  unfold addF
  rw [decide_eq_true (fits_lt m1 (by omega) (by omega)), decide_eq_true (fits_lt m2 (by omega) (by omega)), decide_eq_true (fits_lt m3 (by omega) (by omega)), decide_eq_true (fits_lt m4 (by omega) (by omega))]
  rfl

theorem sumQ_F (l : List ByteArray) (k : ByteArray) (p : List ByteArray) (pre : List (Fin l.length)) : sumQ l k p pre = sumF (fun x : Fin l.length => rv (l.getD x.val ⟨#[]⟩) * rv (p.getD x.val ⟨#[]⟩)) (rv k) pre := rfl
theorem eval_bad {l : List ByteArray} {k : ByteArray} {p : List ByteArray} (hg : ∀ s ∈ l ++ [k], Good 100 s) (hp : ∀ s ∈ p, Good 100 s) (hlen : l.length = p.length) (hl : l.length ≤ 32) (pre : List (Fin l.length)) (x : Fin l.length)
    (hpre : pre ++ [x] <+: nz l) (hadd : addF (sumQ l k p pre) (rv (l.getD x.val ⟨#[]⟩) * rv (p.getD x.val ⟨#[]⟩)) = false) : shortQ (sumQ l k p (nz l)) = false := by
  have ht : ∀ y : Fin l.length, RZ 200 (rv (l.getD y.val ⟨#[]⟩) * rv (p.getD y.val ⟨#[]⟩)) := fun y => by
    have hy := y.isLt
    rw [getD_get l hy, getD_get p (by omega)]
    exact (hg _ (List.mem_append_left _ (List.getElem_mem hy))).rz.mul (hp _ (List.getElem_mem (by omega))).rz
  obtain ⟨rest, hr⟩ := hpre
  have hnz : (nz l).length ≤ 32 := Nat.le_trans (nzTo_len l l.length) hl
  rw [← hr] at hnz ⊢
  cases hs : shortQ (sumQ l k p (pre ++ [x] ++ rest)) with
  | false => rfl
  | true =>
    exfalso
    rw [List.append_assoc] at hs
    have hlens : pre.length + (x :: rest).length ≤ 32 := by simp at hnz ⊢; omega
    rw [sumQ_F, sumF_append, sumF_zero] at hs
    rw [sumQ_F] at hadd
    have hk := (hg k (by simp)).rz
    have hkd := hk.den
    unfold Sz at hkd
    rw [Int.natAbs_natCast] at hkd
    have d1 := sumF_den (k := 200) (fun x : Fin l.length => rv (l.getD x.val ⟨#[]⟩) * rv (p.getD x.val ⟨#[]⟩)) pre (rv k) (fun y _ => ht y)
    have d2 := sumF_den (k := 200) (fun x : Fin l.length => rv (l.getD x.val ⟨#[]⟩) * rv (p.getD x.val ⟨#[]⟩)) ([x] ++ rest) 0 (fun y _ => ht y)
    have mg := sumF_mag (k := 200) (fun x : Fin l.length => rv (l.getD x.val ⟨#[]⟩) * rv (p.getD x.val ⟨#[]⟩)) pre (rv k) (10 ^ 100) (Mag.of hk) (fun y _ => ht y)
    have hx := ht x
    generalize sumF (fun x : Fin l.length => rv (l.getD x.val ⟨#[]⟩) * rv (p.getD x.val ⟨#[]⟩)) (rv k) pre = S at *
    generalize sumF (fun x : Fin l.length => rv (l.getD x.val ⟨#[]⟩) * rv (p.getD x.val ⟨#[]⟩)) 0 ([x] ++ rest) = R at *
    generalize rv (l.getD x.val ⟨#[]⟩) * rv (p.getD x.val ⟨#[]⟩) = q at *
    have hlr : ([x] ++ rest).length = (x :: rest).length := rfl
    rw [hlr] at d2
    generalize (x :: rest).length = b at *
    generalize pre.length = a at *
    have hT : (S + R).den < 10 ^ 100 := by
      unfold shortQ at hs
      rw [Bool.and_eq_true, decide_eq_true_eq, decide_eq_true_eq] at hs
      have := dec_pow (z := ((S + R).den : Int)) (k := 100) (by rw [Int.natAbs_natCast]; exact hs.2)
      rwa [Int.natAbs_natCast] at this
    have e : S = (S + R) + -R := by rw [Rat.add_assoc, Rat.add_neg_cancel, Rat.add_zero]
    have hd : S.den ≤ (S + R).den * R.den := by
      have := den_add_le (S + R) (-R)
      rw [← e, Rat.neg_den] at this
      exact this
    have hR : R.den ≤ 10 ^ (200 * b) := by simpa using d2
    have hS1 : S.den < 10 ^ (100 + 200 * b) := by
      rw [Nat.pow_add]
      exact Nat.lt_of_le_of_lt hd (Nat.mul_lt_mul_of_lt_of_le hT hR (Nat.pow_pos (by decide)))
    have hS2 : S.den < 10 ^ (100 + 200 * a) := by
      rw [Nat.pow_add]
      exact Nat.lt_of_le_of_lt d1 ((Nat.mul_lt_mul_right (Nat.pow_pos (by decide))).2 hkd)
    obtain ⟨E, hE⟩ : ∃ E : Nat, E = 3300 := ⟨_, rfl⟩
    have hS : S.den < 10 ^ E := by
      by_cases h : a ≤ 16
      · exact Nat.lt_of_lt_of_le hS2 (Nat.pow_le_pow_right (by decide) (by omega))
      · exact Nat.lt_of_lt_of_le hS1 (Nat.pow_le_pow_right (by decide) (by omega))
    have hm : S.num.natAbs < 10 ^ (202 + E) := by
      unfold Mag at mg
      rw [Nat.pow_add]
      refine Nat.lt_of_le_of_lt mg (Nat.mul_lt_mul_of_le_of_lt ?_ hS (Nat.pow_pos (by decide)))
      have h1 : a * 10 ^ 200 ≤ 32 * 10 ^ 200 := Nat.mul_le_mul_right _ (by omega)
      have h2 : (10 : Nat) ^ 100 + 32 * 10 ^ 200 ≤ 10 ^ 202 := by decide
      exact Nat.le_trans (Nat.add_le_add_left h1 _) h2
    rw [addF_small hm hS hx (by decide) (by omega) (by omega)] at hadd
    cases hadd
end Go.Proofs.YtjobmkdaaionlaaGreatDoor

/-
  linear: the reference's At.
-/
set_option linter.unusedSimpArgs false
namespace Go.Proofs.YtjobmkdaaionlaaGreatDoor
open Go Go.Proofs Go.RowKit

/-- The value of the first j summands. -/
def atS (k : ByteArray) (l p : List ByteArray) : Nat → ByteArray
  | 0 => k
  | j + 1 => addT (atS k l p j) (mulT (l.getD j ⟨#[]⟩) (p.getD j ⟨#[]⟩))
theorem atS_good {l p : List ByteArray} {k : ByteArray} (hg : ∀ s ∈ l ++ [k], Good 100 s) (hp : ∀ s ∈ p, Good 100 s) : ∀ j, j ≤ l.length → j ≤ p.length → Good (100 + 201 * j) (atS k l p j)
  | 0, _, _ => hg k (by simp)
  | j + 1, h1, h2 => by
    unfold atS
    rw [getD_get l (by omega), getD_get p (by omega)]
    have e : 100 + 201 * (j + 1) = (100 + 201 * j) + (100 + 100) + 1 := by omega
    rw [e]
    exact (atS_good hg hp j (by omega) (by omega)).add ((hg _ (List.mem_append_left _ (List.getElem_mem _))).mul (hp _ (List.getElem_mem _)))

end Go.Proofs.YtjobmkdaaionlaaGreatDoor

/-
  linear: the reference's Eval.
-/
set_option linter.unusedSimpArgs false
namespace Go.Proofs.YtjobmkdaaionlaaGreatDoor
open Go Go.Proofs Go.RowKit

/-- The value at a point, or the number of the error. -/
def evO (l : List ByteArray) (k : ByteArray) (p : List ByteArray) : ByteArray × Nat :=
  if linE l k = 0 then (if p.length = l.length then (if firstE p = 0 then (if shortQ (rv (atS k l p l.length)) = true then (atS k l p l.length, 0) else (⟨#[]⟩, 10)) else (⟨#[]⟩, firstE p)) else (⟨#[]⟩, 15)) else (⟨#[]⟩, linE l k)

end Go.Proofs.YtjobmkdaaionlaaGreatDoor

/-
  linear: Eval in all cases.
-/
set_option linter.unusedSimpArgs false
namespace Go.Proofs.YtjobmkdaaionlaaGreatDoor
open Go Go.Proofs Go.RowKit

theorem atS_rv {l p : List ByteArray} {k : ByteArray} : ∀ j, j ≤ l.length → rv (atS k l p j) = sumQ l k p (nzTo l j)
  | 0, _ => rfl
  | j + 1, h => by
    have hlt : j < l.length := by omega
    show rv (addT (atS k l p j) (mulT (l.getD j ⟨#[]⟩) (p.getD j ⟨#[]⟩))) = _
    rw [rv_add, rv_mul, atS_rv j (by omega)]
    by_cases hz : l[j] = z0
    · rw [nzTo_zero hlt hz, getD_get l hlt, hz]
      have h0 : rv z0 = 0 := rv0
      rw [h0, Rat.zero_mul, Rat.add_zero]
    · rw [nzTo_more hlt hz, sumQ_snoc]
theorem evO_good {l p : List ByteArray} {k : ByteArray} (h0 : linE l k = 0) (hlen : l.length = p.length) (h1 : firstE p = 0) (hp : ∀ s ∈ p, Good 100 s) :
    Value.tuple #[.string (evO l k p).1, .int .i64 ((evO l k p).2 : Nat)] = if shortQ (sumQ l k p (nz l)) = true then .tuple #[.string (tq (sumQ l k p (nz l))), .int .i64 0] else .tuple #[.string ⟨#[]⟩, .int .i64 10] := by
  obtain ⟨-, g2⟩ := linE_zero h0
  have hr : rv (atS k l p l.length) = sumQ l k p (nz l) := atS_rv l.length (Nat.le_refl _)
  have ht : tq (sumQ l k p (nz l)) = atS k l p l.length := by rw [← hr]; exact (atS_good g2 hp l.length (Nat.le_refl _) (by omega)).lit
  unfold evO
  rw [if_pos h0, if_pos hlen.symm, if_pos h1, hr, ht]
  split <;> rfl
theorem firstE_good {p : List ByteArray} (h : firstE p = 0) : ∀ s ∈ p, Good 100 s := fun s hs => good_of_numE ((firstE_iff p).1 h s hs)

structure EvC (w W : World) (ao : Option Addr) (n c : Nat) (k : ByteArray) (po : Option Addr) (np pc : Nat) : Prop where
  x : Bx2 W w.heap.size (.slice ao n c) (.string k)
  p : Boxed W (w.heap.size + 1) 25 (.slice po np pc)
  r : Boxed W (w.heap.size + 1 + 1) 22 (.string ⟨#[]⟩)
  e : Boxed W (w.heap.size + 1 + 1 + 1) 28 (.int .i64 0)
  b : Below w.heap.size w W
theorem EvC.mono {w W W' : World} {ao : Option Addr} {n c : Nat} {k : ByteArray} {po : Option Addr} {np pc : Nat} (h : EvC w W ao n c k po np pc) (g : Below W.heap.size W W') : EvC w W' ao n c k po np pc :=
  ⟨h.x.mono g, boxed_below h.p g, boxed_below h.r g, boxed_below h.e g, Below.chain h.b g⟩
theorem EvC.new (w : World) (ao : Option Addr) (n c : Nat) (k : ByteArray) (po : Option Addr) (np pc : Nat) :
    EvC w ((((w.alloc (Obj.cells #[.slice ao n c, .string k] 27)).alloc (Obj.cells #[.slice po np pc] 25)).alloc (Obj.cells #[.string ⟨#[]⟩] 22)).alloc (Obj.cells #[.int .i64 0] 28)) ao n c k po np pc := by
  have h1 := Bx2.new w (.slice ao n c) (.string k) 27
  have h2 := Boxed.new (w.alloc (Obj.cells #[.slice ao n c, .string k] 27)) 25 (.slice po np pc)
  have h3 := Boxed.new ((w.alloc (Obj.cells #[.slice ao n c, .string k] 27)).alloc (Obj.cells #[.slice po np pc] 25)) 22 (.string ⟨#[]⟩)
  have h4 := Boxed.new (((w.alloc (Obj.cells #[.slice ao n c, .string k] 27)).alloc (Obj.cells #[.slice po np pc] 25)).alloc (Obj.cells #[.string ⟨#[]⟩] 22)) 28 (.int .i64 0)
  simp only [World.size_alloc] at h2 h3 h4
  exact ⟨((h1.over _).over _).over _, (h2.alloc _).alloc _, h3.alloc _, h4, ((((Below.refl _ _).alloc (Nat.le_refl _) _).alloc (by simp) _).alloc (by simp; omega) _).alloc (by simp; omega) _⟩

set_option maxRecDepth 20000 in
set_option maxHeartbeats 4000000 in
theorem linEval (l : List ByteArray) (k : ByteArray) (ao : Option Addr) (c : Nat) (p : List ByteArray) (po : Option Addr) (d : Nat) (w : World) (hr : SRow w ao c l) (hz : ∀ s ∈ l ++ [k], s.size ≤ 1200000) (hn : l.length ≤ 1200000) (hr2 : SRow w po d p) (hz2 : ∀ s ∈ p, s.size ≤ 1200000) (hn2 : p.length ≤ 1200000)
    (htab : Lib.TabIs Tryz.prog w "internal/strconv.uint64pow10" .u64 Lib.pow10Tab) :
    Calls Tryz.prog 32 #[.agg #[.slice ao l.length c, .string k], .slice po p.length d] w (Bret (.tuple #[.string (evO l k p).1, .int .i64 ((evO l k p).2 : Nat)]) w) := by
  have hT := Lib.tabBelow_of_tabIs htab
  have CH := fun (W : World) (hW : Below w.heap.size w W) => linCheck l k ao c W (hr.mono hW) hz hn (hT.on hW).here
  have CP := fun (W : World) (hW : Below w.heap.size w W) => checkNumbersL p po d W (hr2.mono hW) hz2 (by omega) (hT.on hW).here
  have hcs := linE_cases l k
  have hcn := firstE_cases p
  have V0 := EvC.new w ao l.length c k po p.length d
  by_cases h0 : linE l k = 0
  · by_cases hlen : l.length = p.length
    · by_cases h1 : firstE p = 0
      · have gp := firstE_good h1
        have ev := evO_good h0 hlen h1 gp
        rw [← hlen]
        obtain ⟨g1, g2⟩ := linE_zero h0
        exact linEval_good l k ao c p po d w hr hz hn hr2 hz2 h0 hlen h1 gp htab _ (fun pre x hpre hadd => by
          rw [ev, eval_bad g2 gp hlen g1 pre x hpre hadd]; rfl) ev
      · have ev : evO l k p = (⟨#[]⟩, firstE p) := by unfold evO; rw [if_pos h0, if_pos hlen.symm, if_neg h1]
        rw [ev]
        rw [h0] at CH
        clear hr hz hn hr2 hz2 hn2 hT htab hcs h0 ev
        generalize hnl : l.length = nl at *
        generalize hnp : p.length = np at *
        subst hlen
        clear hnl hnp
        rcases hcn with h | h | h
        · exact absurd h h1
        · rw [h] at CP ⊢
          clear h h1
          have KH := Lib.hid CH; have KP := Lib.hid CP; clear CH CP
          go_enter Tryz.func32, Tryz.ntmps32
          go_wp2_with (go_at_call 26; refine (KH.out _ V0.b).mono ?_; rintro e w1 ⟨rfl, hb1⟩; refine Hid.out ?_)
          have V1 := V0.mono hb1
          clear hb1 V0
          have x0 := V1.x.c0; have x4 := V1.x.lt; have p0 := V1.p.cell; have p4 := V1.p.lt
          refine Lib.hid ?_
          go_wp2_with (go_at_call 66; refine (KP.out _ V1.b).mono ?_; rintro e w2 ⟨rfl, hb2⟩; refine Hid.out ?_)
          have V2 := V1.mono hb2
          clear hb2 V1 x0 x4 p0 p4
          refine Lib.hid ?_
          have r0 := V2.r.cell; have r1 := V2.r.frozen; have r4 := V2.r.lt; have e0 := V2.e.cell; have e1 := V2.e.frozen; have e4 := V2.e.lt
          have q1 : ((w2.setCell ⟨w.heap.size + 1 + 1, 0, none⟩ (.string ⟨#[]⟩)).setCell ⟨w.heap.size + 1 + 1 + 1, 0, none⟩ (.int .i64 3)).cell? ⟨w.heap.size + 1 + 1, 0, none⟩ = some (.string ⟨#[]⟩) := (World.cell?_setCell_other _ _ _ _ (by simp)).trans (cellSet r0 _)
          have q2 : ((w2.setCell ⟨w.heap.size + 1 + 1, 0, none⟩ (.string ⟨#[]⟩)).setCell ⟨w.heap.size + 1 + 1 + 1, 0, none⟩ (.int .i64 3)).cell? ⟨w.heap.size + 1 + 1 + 1, 0, none⟩ = some (.int .i64 3) := cellSet ((World.cell?_setCell_other _ _ _ _ (by simp)).trans e0) _
          have HBB := Lib.hid ((V2.b.setCell (p := ⟨w.heap.size + 1 + 1, 0, none⟩) (by dsimp only; omega) (.string ⟨#[]⟩)).setCell (p := ⟨w.heap.size + 1 + 1 + 1, 0, none⟩) (by dsimp only; omega) (.int .i64 3))
          have q := And.intro q1 q2
          clear V2 q1 q2
          go_wp2
          obtain ⟨q1, q2⟩ := q
          refine bodyPost_ret (v := .tuple #[.string ⟨#[]⟩, .int .i64 3]) (by simp [results, Tryz.results32, go_sem, q1, q2]) rfl ?_
          exact ⟨rfl, HBB.out⟩
        · rw [h] at CP ⊢
          clear h h1
          have KH := Lib.hid CH; have KP := Lib.hid CP; clear CH CP
          go_enter Tryz.func32, Tryz.ntmps32
          go_wp2_with (go_at_call 26; refine (KH.out _ V0.b).mono ?_; rintro e w1 ⟨rfl, hb1⟩; refine Hid.out ?_)
          have V1 := V0.mono hb1
          clear hb1 V0
          have x0 := V1.x.c0; have x4 := V1.x.lt; have p0 := V1.p.cell; have p4 := V1.p.lt
          refine Lib.hid ?_
          go_wp2_with (go_at_call 66; refine (KP.out _ V1.b).mono ?_; rintro e w2 ⟨rfl, hb2⟩; refine Hid.out ?_)
          have V2 := V1.mono hb2
          clear hb2 V1 x0 x4 p0 p4
          refine Lib.hid ?_
          have r0 := V2.r.cell; have r1 := V2.r.frozen; have r4 := V2.r.lt; have e0 := V2.e.cell; have e1 := V2.e.frozen; have e4 := V2.e.lt
          have q1 : ((w2.setCell ⟨w.heap.size + 1 + 1, 0, none⟩ (.string ⟨#[]⟩)).setCell ⟨w.heap.size + 1 + 1 + 1, 0, none⟩ (.int .i64 10)).cell? ⟨w.heap.size + 1 + 1, 0, none⟩ = some (.string ⟨#[]⟩) := (World.cell?_setCell_other _ _ _ _ (by simp)).trans (cellSet r0 _)
          have q2 : ((w2.setCell ⟨w.heap.size + 1 + 1, 0, none⟩ (.string ⟨#[]⟩)).setCell ⟨w.heap.size + 1 + 1 + 1, 0, none⟩ (.int .i64 10)).cell? ⟨w.heap.size + 1 + 1 + 1, 0, none⟩ = some (.int .i64 10) := cellSet ((World.cell?_setCell_other _ _ _ _ (by simp)).trans e0) _
          have HBB := Lib.hid ((V2.b.setCell (p := ⟨w.heap.size + 1 + 1, 0, none⟩) (by dsimp only; omega) (.string ⟨#[]⟩)).setCell (p := ⟨w.heap.size + 1 + 1 + 1, 0, none⟩) (by dsimp only; omega) (.int .i64 10))
          have q := And.intro q1 q2
          clear V2 q1 q2
          go_wp2
          obtain ⟨q1, q2⟩ := q
          refine bodyPost_ret (v := .tuple #[.string ⟨#[]⟩, .int .i64 10]) (by simp [results, Tryz.results32, go_sem, q1, q2]) rfl ?_
          exact ⟨rfl, HBB.out⟩
    · have ev : evO l k p = (⟨#[]⟩, 15) := by unfold evO; rw [if_pos h0, if_neg (fun h => hlen h.symm)]
      rw [ev]
      rw [h0] at CH
      have hl2 : ¬ ((p.length : Int) = (l.length : Int)) := by omega
      have hl3 : ¬ ((l.length : Int) = (p.length : Int)) := by omega
      clear hr hz hn hr2 hz2 hn2 hT htab hcs hcn CP h0 ev
      generalize l.length = nl at *
      generalize p.length = np at *
      have KH := Lib.hid CH; clear CH
      go_enter Tryz.func32, Tryz.ntmps32
      go_wp2_with (go_at_call 26; refine (KH.out _ V0.b).mono ?_; rintro e w1 ⟨rfl, hb1⟩; refine Hid.out ?_)
      have V1 := V0.mono hb1
      clear hb1 V0
      have x0 := V1.x.c0; have x4 := V1.x.lt; have p0 := V1.p.cell; have p4 := V1.p.lt
      refine Lib.hid ?_
      have r0 := V1.r.cell; have r1 := V1.r.frozen; have r4 := V1.r.lt; have e0 := V1.e.cell; have e1 := V1.e.frozen; have e4 := V1.e.lt
      have q1 : ((w1.setCell ⟨w.heap.size + 1 + 1, 0, none⟩ (.string ⟨#[]⟩)).setCell ⟨w.heap.size + 1 + 1 + 1, 0, none⟩ (.int .i64 15)).cell? ⟨w.heap.size + 1 + 1, 0, none⟩ = some (.string ⟨#[]⟩) := (World.cell?_setCell_other _ _ _ _ (by simp)).trans (cellSet r0 _)
      have q2 : ((w1.setCell ⟨w.heap.size + 1 + 1, 0, none⟩ (.string ⟨#[]⟩)).setCell ⟨w.heap.size + 1 + 1 + 1, 0, none⟩ (.int .i64 15)).cell? ⟨w.heap.size + 1 + 1 + 1, 0, none⟩ = some (.int .i64 15) := cellSet ((World.cell?_setCell_other _ _ _ _ (by simp)).trans e0) _
      have HBB := Lib.hid ((V1.b.setCell (p := ⟨w.heap.size + 1 + 1, 0, none⟩) (by dsimp only; omega) (.string ⟨#[]⟩)).setCell (p := ⟨w.heap.size + 1 + 1 + 1, 0, none⟩) (by dsimp only; omega) (.int .i64 15))
      have q := And.intro q1 q2
      clear V1 q1 q2
      go_wp2
      obtain ⟨q1, q2⟩ := q
      refine bodyPost_ret (v := .tuple #[.string ⟨#[]⟩, .int .i64 15]) (by simp [results, Tryz.results32, go_sem, q1, q2]) rfl ?_
      exact ⟨rfl, HBB.out⟩
  · have ev : evO l k p = (⟨#[]⟩, linE l k) := by unfold evO; rw [if_neg h0]
    rw [ev]
    clear hr hz hn hr2 hz2 hn2 hT htab CP hcn ev
    generalize l.length = nl at *
    generalize p.length = np at *
    rcases hcs with h | h | h | h
    · exact absurd h h0
    · rw [h] at CH ⊢
      clear h h0
      have KH := Lib.hid CH; clear CH
      go_enter Tryz.func32, Tryz.ntmps32
      go_wp2_with (go_at_call 26; refine (KH.out _ V0.b).mono ?_; rintro e w1 ⟨rfl, hb1⟩; refine Hid.out ?_)
      have V1 := V0.mono hb1
      clear hb1 V0
      have x0 := V1.x.c0; have x4 := V1.x.lt; have p0 := V1.p.cell; have p4 := V1.p.lt
      refine Lib.hid ?_
      have r0 := V1.r.cell; have r1 := V1.r.frozen; have r4 := V1.r.lt; have e0 := V1.e.cell; have e1 := V1.e.frozen; have e4 := V1.e.lt
      have q1 : ((w1.setCell ⟨w.heap.size + 1 + 1, 0, none⟩ (.string ⟨#[]⟩)).setCell ⟨w.heap.size + 1 + 1 + 1, 0, none⟩ (.int .i64 3)).cell? ⟨w.heap.size + 1 + 1, 0, none⟩ = some (.string ⟨#[]⟩) := (World.cell?_setCell_other _ _ _ _ (by simp)).trans (cellSet r0 _)
      have q2 : ((w1.setCell ⟨w.heap.size + 1 + 1, 0, none⟩ (.string ⟨#[]⟩)).setCell ⟨w.heap.size + 1 + 1 + 1, 0, none⟩ (.int .i64 3)).cell? ⟨w.heap.size + 1 + 1 + 1, 0, none⟩ = some (.int .i64 3) := cellSet ((World.cell?_setCell_other _ _ _ _ (by simp)).trans e0) _
      have HBB := Lib.hid ((V1.b.setCell (p := ⟨w.heap.size + 1 + 1, 0, none⟩) (by dsimp only; omega) (.string ⟨#[]⟩)).setCell (p := ⟨w.heap.size + 1 + 1 + 1, 0, none⟩) (by dsimp only; omega) (.int .i64 3))
      have q := And.intro q1 q2
      clear V1 q1 q2
      go_wp2
      obtain ⟨q1, q2⟩ := q
      refine bodyPost_ret (v := .tuple #[.string ⟨#[]⟩, .int .i64 3]) (by simp [results, Tryz.results32, go_sem, q1, q2]) rfl ?_
      exact ⟨rfl, HBB.out⟩
    · rw [h] at CH ⊢
      clear h h0
      have KH := Lib.hid CH; clear CH
      go_enter Tryz.func32, Tryz.ntmps32
      go_wp2_with (go_at_call 26; refine (KH.out _ V0.b).mono ?_; rintro e w1 ⟨rfl, hb1⟩; refine Hid.out ?_)
      have V1 := V0.mono hb1
      clear hb1 V0
      have x0 := V1.x.c0; have x4 := V1.x.lt; have p0 := V1.p.cell; have p4 := V1.p.lt
      refine Lib.hid ?_
      have r0 := V1.r.cell; have r1 := V1.r.frozen; have r4 := V1.r.lt; have e0 := V1.e.cell; have e1 := V1.e.frozen; have e4 := V1.e.lt
      have q1 : ((w1.setCell ⟨w.heap.size + 1 + 1, 0, none⟩ (.string ⟨#[]⟩)).setCell ⟨w.heap.size + 1 + 1 + 1, 0, none⟩ (.int .i64 5)).cell? ⟨w.heap.size + 1 + 1, 0, none⟩ = some (.string ⟨#[]⟩) := (World.cell?_setCell_other _ _ _ _ (by simp)).trans (cellSet r0 _)
      have q2 : ((w1.setCell ⟨w.heap.size + 1 + 1, 0, none⟩ (.string ⟨#[]⟩)).setCell ⟨w.heap.size + 1 + 1 + 1, 0, none⟩ (.int .i64 5)).cell? ⟨w.heap.size + 1 + 1 + 1, 0, none⟩ = some (.int .i64 5) := cellSet ((World.cell?_setCell_other _ _ _ _ (by simp)).trans e0) _
      have HBB := Lib.hid ((V1.b.setCell (p := ⟨w.heap.size + 1 + 1, 0, none⟩) (by dsimp only; omega) (.string ⟨#[]⟩)).setCell (p := ⟨w.heap.size + 1 + 1 + 1, 0, none⟩) (by dsimp only; omega) (.int .i64 5))
      have q := And.intro q1 q2
      clear V1 q1 q2
      go_wp2
      obtain ⟨q1, q2⟩ := q
      refine bodyPost_ret (v := .tuple #[.string ⟨#[]⟩, .int .i64 5]) (by simp [results, Tryz.results32, go_sem, q1, q2]) rfl ?_
      exact ⟨rfl, HBB.out⟩
    · rw [h] at CH ⊢
      clear h h0
      have KH := Lib.hid CH; clear CH
      go_enter Tryz.func32, Tryz.ntmps32
      go_wp2_with (go_at_call 26; refine (KH.out _ V0.b).mono ?_; rintro e w1 ⟨rfl, hb1⟩; refine Hid.out ?_)
      have V1 := V0.mono hb1
      clear hb1 V0
      have x0 := V1.x.c0; have x4 := V1.x.lt; have p0 := V1.p.cell; have p4 := V1.p.lt
      refine Lib.hid ?_
      have r0 := V1.r.cell; have r1 := V1.r.frozen; have r4 := V1.r.lt; have e0 := V1.e.cell; have e1 := V1.e.frozen; have e4 := V1.e.lt
      have q1 : ((w1.setCell ⟨w.heap.size + 1 + 1, 0, none⟩ (.string ⟨#[]⟩)).setCell ⟨w.heap.size + 1 + 1 + 1, 0, none⟩ (.int .i64 10)).cell? ⟨w.heap.size + 1 + 1, 0, none⟩ = some (.string ⟨#[]⟩) := (World.cell?_setCell_other _ _ _ _ (by simp)).trans (cellSet r0 _)
      have q2 : ((w1.setCell ⟨w.heap.size + 1 + 1, 0, none⟩ (.string ⟨#[]⟩)).setCell ⟨w.heap.size + 1 + 1 + 1, 0, none⟩ (.int .i64 10)).cell? ⟨w.heap.size + 1 + 1 + 1, 0, none⟩ = some (.int .i64 10) := cellSet ((World.cell?_setCell_other _ _ _ _ (by simp)).trans e0) _
      have HBB := Lib.hid ((V1.b.setCell (p := ⟨w.heap.size + 1 + 1, 0, none⟩) (by dsimp only; omega) (.string ⟨#[]⟩)).setCell (p := ⟨w.heap.size + 1 + 1 + 1, 0, none⟩) (by dsimp only; omega) (.int .i64 10))
      have q := And.intro q1 q2
      clear V1 q1 q2
      go_wp2
      obtain ⟨q1, q2⟩ := q
      refine bodyPost_ret (v := .tuple #[.string ⟨#[]⟩, .int .i64 10]) (by simp [results, Tryz.results32, go_sem, q1, q2]) rfl ?_
      exact ⟨rfl, HBB.out⟩
end Go.Proofs.YtjobmkdaaionlaaGreatDoor

/-
  surveyorlaw03: right.
-/
set_option linter.unusedSimpArgs false
namespace Go.Proofs.YtjobmkdaaionlaaGreatDoor
open Go Go.Proofs Go.RowKit

/-- A block that holds an expression at its place i. -/
def LRow (W : World) (B i : Nat) (x : List ByteArray × ByteArray) : Prop :=
  ∃ ao c, W.cell? ⟨B, i * 2, none⟩ = some (.slice ao x.1.length c) ∧ W.cell? ⟨B, i * 2 + 1, none⟩ = some (.string x.2) ∧ SRow W ao c x.1
theorem LRow.mono {W W' : World} {B i : Nat} {x : List ByteArray × ByteArray} (h : LRow W B i x) (hB : B < W.heap.size) (hb : Below W.heap.size W W') : LRow W' B i x := by
  obtain ⟨ao, c, h1, h2, h3⟩ := h
  exact ⟨ao, c, (hb.cell (p := ⟨B, i * 2, none⟩) hB).trans h1, (hb.cell (p := ⟨B, i * 2 + 1, none⟩) hB).trans h2, h3.mono hb⟩
/-- One expression over as many variables as the point, without an error. -/
def rightOne (n : Nat) (x : List ByteArray × ByteArray) : Bool := decide (x.1.length = n) && decide (linE x.1 x.2 = 0)
def rightB (L : List (List ByteArray × ByteArray)) (p : List ByteArray) : Bool := L.all (rightOne p.length) && decide (firstE p = 0)

set_option maxRecDepth 20000 in
set_option maxHeartbeats 2000000 in
theorem right_any (L : List (List ByteArray × ByteArray)) (B cap : Nat) (p : List ByteArray) (po : Option Addr) (pc : Nat) (w : World) (hp : SRow w po pc p) (hzp : ∀ s ∈ p, s.size ≤ 1200000) (hnp : p.length ≤ 1200000)
    (hB : B < w.heap.size) (hL : ∀ i (hi : i < L.length), LRow w B i L[i]) (hz : ∀ x ∈ L, ∀ s ∈ x.1 ++ [x.2], s.size ≤ 1200000) (hn : ∀ x ∈ L, x.1.length ≤ 1200000) (hm : L.length ≤ 1000) (hcap : L.length ≤ cap) (hcap2 : cap ≤ 1000) :
    Calls Tryz.prog 38 #[.slice po p.length pc, .slice (some ⟨B, 0, none⟩) L.length cap] w (Bret (.bool (rightB L p)) w) := by
  have CC : ∀ (x : List ByteArray × ByteArray) (hx : x ∈ L) (ao : Option Addr) (c : Nat) (W : World), SRow W ao c x.1 → Calls Tryz.prog 27 #[.agg #[.slice ao x.1.length c, .string x.2]] W (Bret (.int .i64 (linE x.1 x.2 : Nat)) W) := fun x hx ao c W hr =>
    refLinCheck x.1 x.2 ao c W hr (fun s hs => hz x hx s (List.mem_append_left _ hs)) (hz x hx x.2 (by simp)) (hn x hx)
  have CN : ∀ W, Below w.heap.size w W → Calls Tryz.prog 67 #[.slice po p.length pc] W (Bret (.int .i64 (firstE p : Nat)) W) := fun W hW => refNumbers03 p po pc W (hp.mono hW) hzp (by omega)
  have HLn : ∀ x ∈ L, x.1.length ≤ 1200000 := hn
  have hrow : ∀ W, Below w.heap.size w W → ∀ i (hi : i < L.length), LRow W B i L[i] := fun W hW i hi => (hL i hi).mono hB hW
  have hfin : L.all (rightOne p.length) = true → rightB L p = decide (firstE p = 0) := fun h => by unfold rightB; rw [h]; rfl
  have hbad : ∀ i (hi : i < L.length), rightOne p.length L[i] = false → rightB L p = false := fun i hi h => by
    have : L.all (rightOne p.length) = false := by
      rw [List.all_eq_false]
      exact ⟨L[i], List.getElem_mem hi, by rw [h]; simp⟩
    unfold rightB; rw [this]; rfl
  have hall : (∀ i (hi : i < L.length), rightOne p.length L[i] = true) → L.all (rightOne p.length) = true := fun h => by
    rw [List.all_eq_true]
    intro x hx
    obtain ⟨i, hi, rfl⟩ := List.mem_iff_getElem.1 hx
    exact h i hi
  generalize rightB L p = rb at *
  have hB1 : ∀ W, Below w.heap.size w W → B < W.heap.size := fun W hW => Nat.lt_of_lt_of_le hB hW.size
  clear hz hn hzp hL hp hB
  have HC := Lib.hid CC; have HN := Lib.hid CN; have HRW := Lib.hid hrow; have HFIN := Lib.hid hfin; have HBAD := Lib.hid hbad; have HALL := Lib.hid hall; have HB1 := Lib.hid hB1; have HLN := Lib.hid HLn
  clear CC CN hrow hfin hbad hall hB1 HLn
  generalize hlen : L.length = m at hm hcap ⊢
  have HLEN := Lib.hid hlen; clear hlen
  generalize p.length = np at *
  generalize firstE p = fp at *
  go_enter Tryz.func38, Tryz.ntmps38
  go_wp2_with fail
  go_loopw [9] (fun iv wr => ∃ j : Nat, j ≤ m ∧ iv = .int .i64 j ∧ (∀ i (hi : i < L.length), i < j → rightOne np L[i] = true) ∧ Below w.heap.size w wr) (fun iv _ => m - (intOf iv).toNat)
  case atStart => exact ⟨0, Nat.zero_le _, rfl, fun i hi h => absurd h (by omega), Below.refl _ _⟩
  case round =>
    obtain ⟨j, hj, rfl, hg, hbw⟩ := hrel
    have HBW := Lib.hid hbw; have HG := Lib.hid hg; clear hbw hg
    by_cases hlt : j < m
    · have hlt' : j < L.length := by rw [HLEN.out]; exact hlt
      obtain ⟨ao, c, h1, h2, hr⟩ := HRW.out wr HBW.out j hlt'
      have hbl := HB1.out wr HBW.out
      have KC := HC.out _ (List.getElem_mem hlt') ao c
      have hbad := HBAD.out j hlt'
      have hgood : rightOne np L[j] = true → ∀ i (hi : i < L.length), i < j + 1 → rightOne np L[i] = true := fun h i hi hi2 => by
        rcases Nat.lt_or_ge i j with q | q
        · exact HG.out i hi q
        · have : i = j := by omega
          subst this; exact h
      have hll := HLN.out _ (List.getElem_mem hlt')
      generalize L[j] = x at *
      obtain ⟨l, k⟩ := x
      dsimp only at *
      unfold rightOne at hbad hgood
      dsimp only at hbad hgood
      have X := Bx2.new wr (.slice ao l.length c) (.string k) 27
      have hb1 : Below wr.heap.size wr (wr.alloc (Obj.cells #[.slice ao l.length c, .string k] 27)) := (Below.refl _ _).alloc (Nat.le_refl _) _
      have hr1 := hr.mono hb1
      have hbw1 := Below.chain HBW.out hb1
      have KC1 := KC _ hr1
      have hnl := hll
      by_cases hlen : l.length = np
      · cases he : decide (linE l k = 0)
        · have hne : ¬ linE l k = 0 := of_decide_eq_false he
          have hrb : rb = false := hbad (by rw [decide_eq_true hlen, he]; rfl)
          subst hrb
          generalize linE l k = f at *
          have hf : ¬ ((f : Int) = 0) := by omega
          have HKC := Lib.hid KC1; have HB := Lib.hid hbw1
          clear KC KC1 hr hr1 hbad hgood hb1 hbw1 he HFIN HALL HRW HC HLN
          subst hlen
          have x0 := X.c0; have x1 := X.c1; have x2 := X.lt
          clear X
          go_wp2_with (go_at_call 27; refine HKC.out.mono ?_; rintro e w3 ⟨rfl, hb3⟩; refine Hid.out ?_)
          have HB3 := Lib.hid (Below.chain HB.out hb3); clear hb3
          refine Lib.hid ?_
          go_wp2
          go_ret
          exact ⟨rfl, HB3.out⟩
        · have h0 : linE l k = 0 := of_decide_eq_true he
          have hgo := hgood (by rw [decide_eq_true hlen, he]; rfl)
          rw [h0] at KC1
          have HKC := Lib.hid KC1; have HB := Lib.hid hbw1; have HGO := Lib.hid hgo
          clear KC KC1 hr hr1 hbad hgood hb1 hbw1 he h0 hgo HFIN HALL HRW HC HLN
          subst hlen
          have x0 := X.c0; have x1 := X.c1; have x2 := X.lt
          clear X
          go_wp2_with (go_at_call 27; refine HKC.out.mono ?_; rintro e w3 ⟨rfl, hb3⟩; refine Hid.out ?_)
          have HB3 := Lib.hid (Below.chain HB.out hb3); clear hb3
          refine Lib.hid ?_
          go_wp2
          go_roundw
          case rel => exact ⟨j + 1, by omega, by go_num, HGO.out, HB3.out⟩
          case measure => simp [intOf]; omega
      · have hrb : rb = false := hbad (by rw [decide_eq_false hlen]; rfl)
        subst hrb
        have HB := Lib.hid hbw1
        clear KC KC1 hr hr1 hbad hgood hb1 hbw1 HFIN HALL HRW HC HLN
        generalize l.length = nl at *
        have hne : ¬ ((nl : Int) = (np : Int)) := by omega
        have x0 := X.c0; have x1 := X.c1; have x2 := X.lt
        clear X
        go_wp2
        go_ret
        exact ⟨rfl, HB.out⟩
    · have hjn : j = m := by omega
      subst hjn
      have hfin := HFIN.out (HALL.out (fun i hi => HG.out i hi (by rw [HLEN.out] at hi; exact hi)))
      have HKN := Lib.hid (HN.out wr HBW.out)
      clear HN HFIN HALL HRW HC HLN HBAD
      subst hfin
      go_wp2_with (go_at_call 67; refine HKN.out.mono ?_; rintro e w3 ⟨rfl, hb3⟩; refine Hid.out ?_)
      have HB3 := Lib.hid (Below.chain HBW.out hb3); clear hb3
      refine Lib.hid ?_
      have hb : ((fp : Int) == 0) = decide (fp = 0) := by
        rw [Bool.eq_iff_iff]; simp
      have HBE := Lib.hid hb; clear hb
      go_wp2
      go_ret
      exact ⟨by show Ending.returned (Value.bool ((fp : Int) == 0)) = _; rw [HBE.out], HB3.out⟩
end Go.Proofs.YtjobmkdaaionlaaGreatDoor

/-
  Mathematics of values of expressions at points.
-/
set_option linter.unusedSimpArgs false
namespace Go.Proofs.YtjobmkdaaionlaaGreatDoor
open Go Go.Proofs Go.RowKit

/-- The sum of products. -/
def dotQ : List ByteArray → List ByteArray → Rat
  | a :: l, b :: p => rv a * rv b + dotQ l p
  | _, _ => 0
def valQ (l : List ByteArray) (k : ByteArray) (p : List ByteArray) : Rat := rv k + dotQ l p
theorem dotQ_snoc (x y : ByteArray) : ∀ (l p : List ByteArray), l.length = p.length → dotQ (l ++ [x]) (p ++ [y]) = dotQ l p + rv x * rv y
  | [], [], _ => by show rv x * rv y + 0 = 0 + _; rw [Rat.add_zero, Rat.zero_add]
  | a :: l, b :: p, h => by
    show rv a * rv b + dotQ (l ++ [x]) (p ++ [y]) = rv a * rv b + dotQ l p + _
    rw [dotQ_snoc x y l p (by simpa using h), Rat.add_assoc]
  | [], _ :: _, h => by simp at h
  | _ :: _, [], h => by simp at h
theorem atS_take {l p : List ByteArray} {k : ByteArray} (hlen : l.length = p.length) : ∀ j, j ≤ l.length → rv (atS k l p j) = valQ (l.take j) k (p.take j)
  | 0, _ => by show rv k = rv k + 0; rw [Rat.add_zero]
  | j + 1, h => by
    show rv (addT (atS k l p j) (mulT (l.getD j ⟨#[]⟩) (p.getD j ⟨#[]⟩))) = _
    rw [rv_add, rv_mul, atS_take hlen j (by omega)]
    unfold valQ
    rw [← List.take_append_getElem (show j < l.length by omega), ← List.take_append_getElem (show j < p.length by omega), dotQ_snoc _ _ _ _ (by simp; omega), getD_get l (by omega), getD_get p (by omega), Rat.add_assoc]
theorem atS_val {l p : List ByteArray} {k : ByteArray} (hlen : l.length = p.length) : rv (atS k l p l.length) = valQ l k p := by
  have := atS_take (k := k) hlen l.length (Nat.le_refl _)
  rwa [List.take_of_length_le (Nat.le_refl _), List.take_of_length_le (by omega)] at this
/-- What Eval returns where nothing is wrong. -/
def evV (q : Rat) : ByteArray × Nat := if shortQ q = true then (tq q, 0) else (⟨#[]⟩, 10)
theorem evO_val {l p : List ByteArray} {k : ByteArray} (h0 : linE l k = 0) (hlen : l.length = p.length) (h1 : firstE p = 0) : evO l k p = evV (valQ l k p) := by
  obtain ⟨-, g2⟩ := linE_zero h0
  have hr := atS_val (k := k) hlen
  have ht : tq (valQ l k p) = atS k l p l.length := by rw [← hr]; exact (atS_good g2 (firstE_good h1) l.length (Nat.le_refl _) (by omega)).lit
  unfold evO evV
  rw [if_pos h0, if_pos hlen.symm, if_pos h1, hr, ht]
theorem evV_cases (q : Rat) : (evV q = (tq q, 0) ∧ shortQ q = true) ∨ evV q = (⟨#[]⟩, 10) := by
  unfold evV; split
  · exact .inl ⟨rfl, by assumption⟩
  · exact .inr rfl
/-- An expression that is returned is without an error. -/
theorem linE_short {l : List ByteArray} {k : ByteArray} {m : Nat} (hl : l.length ≤ 32) (hg : ∀ s ∈ l ++ [k], Good m s) (hm : m ≤ 4096) (hs : (l ++ [k]).all shortS = true) : linE l k = 0 := by
  unfold linE
  rw [if_neg (by omega), firstE_iff]
  intro s h
  rw [numE_good (hg s h) hm]
  rw [List.all_eq_true] at hs
  exact if_pos (hs s h)
end Go.Proofs.YtjobmkdaaionlaaGreatDoor

/-
  linear: the reference's Moved.
-/
set_option linter.unusedSimpArgs false
namespace Go.Proofs.YtjobmkdaaionlaaGreatDoor
open Go Go.Proofs Go.RowKit

/-- The coefficients after j of them were moved. -/
def movS (l : List ByteArray) (ts : List Int) (n : Nat) : Nat → List ByteArray
  | 0 => List.replicate n z0
  | j + 1 => (movS l ts n j).set (ts.getD j 0).toNat (addT ((movS l ts n j).getD (ts.getD j 0).toNat ⟨#[]⟩) (l.getD j ⟨#[]⟩))
theorem movS_good {l : List ByteArray} (hg : ∀ s ∈ l, Good 100 s) (ts : List Int) (n : Nat) (hts : ∀ t ∈ ts, 0 ≤ t ∧ t < (n : Int)) : ∀ j, j ≤ l.length → j ≤ ts.length → (movS l ts n j).length = n ∧ ∀ s ∈ movS l ts n j, Good (100 + 101 * j) s
  | 0, _, _ => ⟨List.length_replicate .., fun s hs => by obtain rfl := List.eq_of_mem_replicate hs; exact good0 (by decide)⟩
  | j + 1, h1, h2 => by
    obtain ⟨a, b⟩ := movS_good hg ts n hts j (by omega) (by omega)
    unfold movS
    refine ⟨by rw [List.length_set]; exact a, fun s hs => ?_⟩
    rcases List.mem_or_eq_of_mem_set hs with h | rfl
    · exact (b s h).mono (by omega)
    · have ht := hts (ts.getD j 0) (by rw [show ts.getD j 0 = ts[j]'(by omega) by simp [show j < ts.length by omega]]; exact List.getElem_mem _)
      have hlt : (ts.getD j 0).toNat < (movS l ts n j).length := by omega
      rw [getD_get _ hlt, getD_get l (by omega)]
      exact ((b _ (List.getElem_mem _)).add (hg _ (List.getElem_mem _))).mono (by omega)
theorem rv_z0 : rv z0 = 0 := by
  have h : z0 = tq 0 := tq0.symm
  rw [h, rv_tq]
theorem addT_z0 {k : Nat} {s : ByteArray} (h : Good k s) : addT s z0 = s := by
  unfold addT
  rw [rv_z0, Rat.add_zero, h.lit]
theorem movS_eq {l : List ByteArray} (hg : ∀ s ∈ l, Good 100 s) (ts : List Int) (n : Nat) (hts : ∀ t ∈ ts, 0 ≤ t ∧ t < (n : Int)) (hlen : ts.length = l.length) : ∀ j, j ≤ l.length → movS l ts n j = movL l ts n (nzTo l j)
  | 0, _ => rfl
  | j + 1, h1 => by
    have ih := movS_eq hg ts n hts hlen j (by omega)
    obtain ⟨a, b⟩ := movS_good hg ts n hts j (by omega) (by omega)
    have hlt : j < l.length := by omega
    by_cases hz : l[j] = z0
    · rw [nzTo_zero hlt hz, ← ih]
      show (movS l ts n j).set _ _ = _
      have ht := hts (ts.getD j 0) (by rw [show ts.getD j 0 = ts[j]'(by omega) by simp [show j < ts.length by omega]]; exact List.getElem_mem _)
      have hlt2 : (ts.getD j 0).toNat < (movS l ts n j).length := by omega
      rw [getD_get _ hlt2, getD_get l hlt, hz, addT_z0 (b _ (List.getElem_mem _)), List.set_getElem_self]
    · rw [nzTo_more hlt hz, movL_snoc, ← ih]
      rfl

end Go.Proofs.YtjobmkdaaionlaaGreatDoor

