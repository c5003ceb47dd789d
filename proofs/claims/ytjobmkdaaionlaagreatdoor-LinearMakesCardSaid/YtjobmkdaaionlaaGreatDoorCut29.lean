import Derived.Test.YtjobmkdaaionlaaGreatDoorCut28
import Derived.Test.YtjobmkdaaionlaaGreatDoorCut27
import Derived.RangeFuncBox
import Derived.RangeFuncLeaves
import Derived.RangeFuncNested
import Derived.Shelf.Abstract
import Derived.OwnWalkIn
import Derived.TacticsInMore
import Derived.LoopNIn
import Derived.LoopIn
import Derived.Test.YtjobmkdaaionlaaGreatDoorOwnIter
import Derived.Deep.RegionHeld3
import Derived.Deep.AppendLies

set_option linter.unusedVariables false
/-
  rational: sizes; its functions at numbers that are short enough.
-/
namespace Go.Proofs.YtjobmkdaaionlaaGreatDoor
open Go Go.Proofs Go.RowKit

/-- The numerator and the denominator have at most k digits. -/
structure RZ (k : Nat) (q : Rat) : Prop where
  num : Sz k q.num
  den : Sz k (q.den : Int)
theorem RZ.mono {j k : Nat} {q : Rat} (h : RZ j q) (hk : j ≤ k) : RZ k q := ⟨h.num.mono hk, h.den.mono hk⟩
theorem RZ.pos {k : Nat} {q : Rat} (h : RZ k q) : 0 < k := by
  have h1 := h.den; have h2 := q.den_pos
  unfold Sz at h1
  rcases Nat.eq_zero_or_pos k with rfl | hk
  · simp at h1; omega
  · exact hk
theorem RZ.rs {k : Nat} {q : Rat} (h : RZ k q) (hk : k ≤ 4096) : RatS q := ⟨h.num.str h.pos hk, h.den.str h.pos hk⟩
theorem fits_sz {k : Nat} {z : Int} (h : Sz k z) (h0 : 0 < k) (hk : k ≤ 4096) : decide (Fits z) = true := decide_eq_true (h.fits h0 hk)
theorem RZ.divInt {k : Nat} {x y : Int} (hx : Sz k x) (hy : Sz k y) (h0 : y ≠ 0) : RZ k (Rat.divInt x y) := by
  obtain ⟨e1, e2⟩ := reduced_parts (x := x) h0
  have hg := sgcd_ne (x := x) h0
  refine ⟨?_, ?_⟩
  · rw [← e1]; exact Nat.lt_of_le_of_lt (fdiv_le x _ hg) hx
  · rw [← e2]; exact Nat.lt_of_le_of_lt (fdiv_le y _ hg) hy
theorem RZ.cross {i j : Nat} {p q : Rat} (hp : RZ i p) (hq : RZ j q) : Sz (i + j) (p.num * q.den) ∧ Sz (i + j) (q.num * p.den) ∧ Sz (i + j) ((p.den : Int) * q.den) ∧ Sz (i + j) (p.num * q.num) ∧ Sz (i + j) ((p.den : Int) * q.num) :=
  ⟨hp.num.mul hq.den, by rw [Nat.add_comm]; exact hq.num.mul hp.den, hp.den.mul hq.den, hp.num.mul hq.num, hp.den.mul hq.num⟩
theorem RZ.add {i j : Nat} {p q : Rat} (hp : RZ i p) (hq : RZ j q) : RZ (i + j + 1) (p + q) := by
  obtain ⟨h1, h2, h3, -, -⟩ := hp.cross hq
  rw [← divInt_add]
  exact RZ.divInt (h1.add h2) (h3.mono (by omega)) (den_mul_ne p q)
theorem RZ.mul {i j : Nat} {p q : Rat} (hp : RZ i p) (hq : RZ j q) : RZ (i + j) (p * q) := by
  obtain ⟨-, -, h3, h4, -⟩ := hp.cross hq
  rw [← divInt_mul]
  exact RZ.divInt h4 h3 (den_mul_ne p q)
theorem addF_ok {i j : Nat} {p q : Rat} (hp : RZ i p) (hq : RZ j q) (hk : i + j + 1 ≤ 4096) : addF p q = true := by
  obtain ⟨h1, h2, h3, -, -⟩ := hp.cross hq
  have h0 := hp.pos
  unfold addF
  rw [fits_sz h1 (by omega) (by omega), fits_sz h2 (by omega) (by omega), fits_sz (h1.add h2) (by omega) hk, fits_sz h3 (by omega) (by omega)]; rfl
theorem mulF_ok {i j : Nat} {p q : Rat} (hp : RZ i p) (hq : RZ j q) (hk : i + j ≤ 4096) : mulF p q = true := by
  obtain ⟨-, -, h3, h4, -⟩ := hp.cross hq
  have h0 := hp.pos
  unfold mulF
  rw [fits_sz h4 (by omega) hk, fits_sz h3 (by omega) hk]; rfl
theorem ratL_len (q : Rat) : (ratL q).length ≤ (Lib.itoa q.num).length + (Lib.itoa (q.den : Int)).length + 1 := by
  unfold ratL; split
  · omega
  · rw [List.length_append, List.length_cons]; omega
theorem RStr.size {s : ByteArray} {q : Rat} (h : RStr s q) : s.size ≤ 9000 := by
  have h1 : (bytes s).length = s.size := rfl
  have h2 := ratL_len q
  have h3 := h.rs.num.size; have h4 := h.rs.den.size
  rw [str_size] at h3 h4
  rw [h.text] at h1
  omega
theorem RStr.short {s : ByteArray} {q : Rat} {k : Nat} (h : RStr s q) (hs : s.size ≤ k) (h0 : 0 < k) : RZ k q := by
  have h1 : (bytes s).length = s.size := rfl
  rw [h.text] at h1
  have ha : (Lib.itoa q.num).length ≤ k ∧ (Lib.itoa (q.den : Int)).length ≤ k := by
    unfold ratL at h1
    split at h1
    · next hd => rw [hd]; refine ⟨by omega, ?_⟩; rw [show Lib.itoa ((1 : Nat) : Int) = [49] from itoa_one]; simp; omega
    · rw [List.length_append, List.length_cons] at h1; omega
  have hb : ∀ z : Int, (Lib.itoa z).length ≤ k → Sz k z := fun z hz => by
    have : (Lib.decDigits z.natAbs).length ≤ (Lib.itoa z).length := by
      by_cases hn : z < 0
      · rw [itoa_neg hn]; simp
      · rw [itoa_nonneg hn]; exact Nat.le_refl _
    exact dec_pow (by omega)
  exact ⟨hb _ ha.1, hb _ ha.2⟩

theorem raddS {s t : ByteArray} {p q : Rat} {i j : Nat} (hs : RStr s p) (ht : RStr t q) (hi : RZ i p) (hj : RZ j q) (hk : i + j + 1 ≤ 4096) (w : World) (htab : Lib.TabIs Tryz.prog w "internal/strconv.uint64pow10" .u64 Lib.pow10Tab) :
    Calls Tryz.prog 70 #[.string s, .string t] w (Bret (.tuple #[.string (str (ratL (p + q))), .int .i64 0]) w) := by
  have := ratAdd s t w (by have := hs.size; omega) (by have := ht.size; omega) htab
  rwa [ratR2_at addQ hs ht, show addQ p q = _ from if_pos (addF_ok hi hj hk)] at this
theorem rmulS {s t : ByteArray} {p q : Rat} {i j : Nat} (hs : RStr s p) (ht : RStr t q) (hi : RZ i p) (hj : RZ j q) (hk : i + j ≤ 4096) (w : World) (htab : Lib.TabIs Tryz.prog w "internal/strconv.uint64pow10" .u64 Lib.pow10Tab) :
    Calls Tryz.prog 40 #[.string s, .string t] w (Bret (.tuple #[.string (str (ratL (p * q))), .int .i64 0]) w) := by
  have := ratMul s t w (by have := hs.size; omega) (by have := ht.size; omega) htab
  rwa [ratR2_at mulQ hs ht, show mulQ p q = _ from if_pos (mulF_ok hi hj hk)] at this
theorem ratL_int (z : Int) : ratL (z : Rat) = Lib.itoa z := by unfold ratL; rw [if_pos (Rat.den_intCast z), Rat.num_intCast]
theorem zero_rstr : RStr ⟨#[48]⟩ 0 := q0_str
end Go.Proofs.YtjobmkdaaionlaaGreatDoor

/-
  linear: texts of numbers, their sums and products.
-/
namespace Go.Proofs.YtjobmkdaaionlaaGreatDoor
open Go Go.Proofs Go.RowKit

/-- The text of a number, and the number of a text. -/
def tq (q : Rat) : ByteArray := str (ratL q)
def rv (s : ByteArray) : Rat := ratV (bytes s)
/-- A canonical text, with at most k digits above and below. -/
structure Good (k : Nat) (s : ByteArray) : Prop where
  text : bytes s = ratL (rv s)
  rz : RZ k (rv s)
theorem rv_tq (q : Rat) : rv (tq q) = q := by unfold rv tq; rw [bytes_str]; exact ratV_rat q
theorem Good.tq {k : Nat} {q : Rat} (h : RZ k q) : Good k (tq q) := ⟨by rw [rv_tq]; exact bytes_str _, by rw [rv_tq]; exact h⟩
theorem Good.lit {k : Nat} {s : ByteArray} (h : Good k s) : Go.Proofs.YtjobmkdaaionlaaGreatDoor.tq (rv s) = s := by unfold Go.Proofs.YtjobmkdaaionlaaGreatDoor.tq; rw [← h.text, str_bytes]
theorem Good.rstr {k : Nat} {s : ByteArray} (h : Good k s) (hk : k ≤ 4096) : RStr s (rv s) := ⟨h.text, h.rz.rs hk⟩
theorem Good.mono {j k : Nat} {s : ByteArray} (h : Good j s) (hk : j ≤ k) : Good k s := ⟨h.text, h.rz.mono hk⟩
theorem Good.size {k : Nat} {s : ByteArray} (h : Good k s) (hk : k ≤ 4096) : s.size ≤ 9000 := (h.rstr hk).size
theorem rz_of_short {q : Rat} (h : shortQ q = true) : RZ 100 q := by
  unfold shortQ at h
  rw [Bool.and_eq_true, decide_eq_true_eq, decide_eq_true_eq] at h
  exact ⟨dec_pow h.1, dec_pow (by rw [Int.natAbs_natCast]; exact h.2)⟩
theorem good_of_numE {s : ByteArray} (h : numE (bytes s) = 0) : Good 100 s := by
  obtain ⟨h1, h2⟩ := numE_zero h
  have h3 := rstr_of_rerr h1
  refine ⟨h3.text, rz_of_short ?_⟩
  rw [← shortN_rat]
  show shortN (ratL (rv s)) = true
  rw [show ratL (rv s) = bytes s from h3.text.symm]
  exact h2
def mulT (s t : ByteArray) : ByteArray := tq (rv s * rv t)
def addT (s t : ByteArray) : ByteArray := tq (rv s + rv t)
theorem rv_mul (s t : ByteArray) : rv (mulT s t) = rv s * rv t := rv_tq _
theorem Good.mul {i j : Nat} {s t : ByteArray} (hs : Good i s) (ht : Good j t) : Good (i + j) (mulT s t) := Good.tq (hs.rz.mul ht.rz)
theorem Good.add {i j : Nat} {s t : ByteArray} (hs : Good i s) (ht : Good j t) : Good (i + j + 1) (addT s t) := Good.tq (hs.rz.add ht.rz)
theorem tq0 : tq 0 = ⟨#[48]⟩ := zero_rstr.lit
theorem good0 {k : Nat} (h : 0 < k) : Good k ⟨#[48]⟩ := by rw [← tq0]; exact Good.tq ⟨by show (0 : Int).natAbs < _; exact Nat.pow_pos (by decide), by show Int.natAbs 1 < _; exact Nat.one_lt_pow (by omega) (by decide)⟩
theorem raddG {s t : ByteArray} {i j : Nat} (hs : Good i s) (ht : Good j t) (hk : i + j + 1 ≤ 4096) (w : World) (htab : Lib.TabIs Tryz.prog w "internal/strconv.uint64pow10" .u64 Lib.pow10Tab) :
    Calls Tryz.prog 70 #[.string s, .string t] w (Bret (.tuple #[.string (addT s t), .int .i64 0]) w) := raddS (hs.rstr (by omega)) (ht.rstr (by omega)) hs.rz ht.rz hk w htab
theorem rmulG {s t : ByteArray} {i j : Nat} (hs : Good i s) (ht : Good j t) (hk : i + j ≤ 4096) (w : World) (htab : Lib.TabIs Tryz.prog w "internal/strconv.uint64pow10" .u64 Lib.pow10Tab) :
    Calls Tryz.prog 40 #[.string s, .string t] w (Bret (.tuple #[.string (mulT s t), .int .i64 0]) w) := by
  have h0 := hs.rz.pos; have h1 := ht.rz.pos
  exact rmulS (hs.rstr (by omega)) (ht.rstr (by omega)) hs.rz ht.rz hk w htab
end Go.Proofs.YtjobmkdaaionlaaGreatDoor

/-
  linear: the closures of sum, multiple and Integral.
-/
namespace Go.Proofs.YtjobmkdaaionlaaGreatDoor
open Go Go.Proofs Go.RowKit

set_option maxHeartbeats 1000000 in
theorem sumCl (x y : ByteArray) (i j b off n c q : Nat) (m : Nat) (w : World) (hx : Good i x) (hy : Good j y) (hk : i + j + 1 ≤ 4096) (hm : m < n) (hn : n ≤ c) (hc : c ≤ 9223372036854775807)
    (hq : w.cell? ⟨q, 0, none⟩ = some (.slice (some ⟨b, off, none⟩) n c)) (hy' : w.cell? ⟨b, off + m, none⟩ = some (.string y)) (htab : Lib.TabIs Tryz.prog w "internal/strconv.uint64pow10" .u64 Lib.pow10Tab) :
    Calls Tryz.prog 82 #[.int .i64 (m : Int), .string x, .pointer (some ⟨q, 0, none⟩)] w (Bret (.string (addT x y)) w) := by
  have C := fun W : World => fun h => raddG hx hy hk W h
  have K := Lib.hid (raddG hx hy hk w htab); clear C hx hy hk
  generalize addT x y = z at *
  go_enter Tryz.func82, Tryz.ntmps82
  go_wp2_with (go_at_call 70; refine K.out.mono ?_; rintro e w1 ⟨rfl, hb1⟩; refine Hid.out ?_)
  have HB := Lib.hid hb1; clear hb1
  refine Lib.hid ?_
  go_wp2
  refine bodyPost_ret (v := .string z) (by simp [results, Tryz.results82, go_sem]) rfl ?_
  exact ⟨rfl, HB.out⟩
set_option maxHeartbeats 1000000 in
theorem multipleCl (x y : ByteArray) (i j q : Nat) (m : Int) (w : World) (hx : Good i x) (hy : Good j y) (hk : i + j ≤ 4096)
    (hq : w.cell? ⟨q, 0, none⟩ = some (.string y)) (htab : Lib.TabIs Tryz.prog w "internal/strconv.uint64pow10" .u64 Lib.pow10Tab) :
    Calls Tryz.prog 96 #[.int .i64 m, .string x, .pointer (some ⟨q, 0, none⟩)] w (Bret (.string (mulT x y)) w) := by
  have K := Lib.hid (rmulG hx hy hk w htab); clear hx hy hk htab
  generalize mulT x y = z at *
  go_enter Tryz.func96, Tryz.ntmps96
  go_wp2_with (go_at_call 40; refine K.out.mono ?_; rintro e w1 ⟨rfl, hb1⟩; refine Hid.out ?_)
  have HB := Lib.hid hb1; clear hb1
  refine Lib.hid ?_
  go_wp2
  refine bodyPost_ret (v := .string z) (by simp [results, Tryz.results96, go_sem]) rfl ?_
  exact ⟨rfl, HB.out⟩
set_option maxHeartbeats 1000000 in
theorem integralCl (x y : ByteArray) (i j q : Nat) (m : Int) (w : World) (hx : Good i x) (hy : Good j y) (hk : i + j ≤ 4096)
    (hq : w.cell? ⟨q, 0, none⟩ = some (.string y)) (htab : Lib.TabIs Tryz.prog w "internal/strconv.uint64pow10" .u64 Lib.pow10Tab) :
    Calls Tryz.prog 60 #[.int .i64 m, .string x, .pointer (some ⟨q, 0, none⟩)] w (Bret (.string (mulT x y)) w) := by
  have K := Lib.hid (rmulG hx hy hk w htab); clear hx hy hk htab
  generalize mulT x y = z at *
  go_enter Tryz.func60, Tryz.ntmps60
  go_wp2_with (go_at_call 40; refine K.out.mono ?_; rintro e w1 ⟨rfl, hb1⟩; refine Hid.out ?_)
  have HB := Lib.hid hb1; clear hb1
  refine Lib.hid ?_
  go_wp2
  refine bodyPost_ret (v := .string z) (by simp [results, Tryz.results60, go_sem]) rfl ?_
  exact ⟨rfl, HB.out⟩
end Go.Proofs.YtjobmkdaaionlaaGreatDoor

/-
  linear: zeros, multiple, sum.
-/
set_option linter.unusedSimpArgs false
namespace Go.Proofs.YtjobmkdaaionlaaGreatDoor
open Go Go.Proofs Go.RowKit

theorem map_range_getD (l : List ByteArray) (f : ByteArray → ByteArray) : (List.range l.length).map (fun j => f (l.getD j ⟨#[]⟩)) = l.map f := by
  apply List.ext_getElem (by simp)
  intro i h1 h2
  simp at h1
  simp [h1]
theorem zip_range_getD (a b : List ByteArray) (f : ByteArray → ByteArray → ByteArray) (h : a.length = b.length) : (List.range a.length).map (fun j => f (a.getD j ⟨#[]⟩) (b.getD j ⟨#[]⟩)) = List.zipWith f a b := by
  apply List.ext_getElem (by simp [h])
  intro i h1 h2
  simp at h1
  have h3 : i < b.length := by omega
  simp [h1, h3]
theorem getD_get (l : List ByteArray) {j : Nat} (h : j < l.length) : l.getD j ⟨#[]⟩ = l[j] := by simp [h]

def z0 : ByteArray := ⟨#[48]⟩
set_option maxHeartbeats 1000000 in
theorem zeros_any (n : Nat) (w : World) (hn : n ≤ 1000) :
    Calls Tryz.prog 47 #[.int .i64 (n : Int)] w fun e w' => ∃ g, e = .returned (.slice (some ⟨g, 0, none⟩) n n) ∧ w'.heap[g]? = some (.cells (strCells (List.replicate n z0)).toArray 22 (0, 0)) ∧ w.heap.size ≤ g ∧ Below w.heap.size w w' := by
  have B0 : Below w.heap.size w (w.alloc (Obj.cells #[.string ⟨#[48]⟩] 22)) := (Below.refl _ _).alloc (Nat.le_refl _) _
  have C := repeat_any n w.heap.size ⟨#[48]⟩ (w.alloc (Obj.cells #[.string ⟨#[48]⟩] 22)) hn (by go_cell) (by simp)
  have HB := Lib.hid B0; have KC := Lib.hid C; clear B0 C
  go_enter Tryz.func47, Tryz.ntmps47
  go_wp2_with (go_at_call 80; refine KC.out.mono ?_; rintro e w1 ⟨g, rfl, hh, hg, hb⟩; refine Hid.out ?_)
  have HH := Lib.hid hh; have HB1 := Lib.hid (Below.chain HB.out hb); have HG := Lib.hid (Nat.le_trans HB.out.size hg); clear hh hg hb
  refine Lib.hid ?_
  go_wp2
  refine bodyPost_ret (v := .slice (some ⟨g, 0, none⟩) n n) (by simp [results, Tryz.results47, go_sem]) rfl ?_
  exact ⟨g, rfl, HH.out, HG.out, HB1.out⟩

set_option maxHeartbeats 1000000 in
theorem multiple_any (l : List ByteArray) (x : ByteArray) (ao : Option Addr) (c i j : Nat) (w : World) (hr : SRow w ao c l) (hl : l.length ≤ 1000) (hg : ∀ s ∈ l, Good i s) (hx : Good j x) (hk : i + j ≤ 4096) (htab : Lib.TabIs Tryz.prog w "internal/strconv.uint64pow10" .u64 Lib.pow10Tab) :
    Calls Tryz.prog 68 #[.slice ao l.length c, .string x] w fun e w' => ∃ b, e = .returned (.slice (some ⟨b, 0, none⟩) l.length l.length) ∧ XBlk 22 w' b (l.map fun s => mulT s x) ∧ w.heap.size ≤ b ∧ Below w.heap.size w w' := by
  have hT := Lib.tabBelow_of_tabIs htab
  have B0 : Below w.heap.size w (w.alloc (Obj.cells #[.string x] 22)) := (Below.refl _ _).alloc (Nat.le_refl _) _
  have C := mapped_multiple l (fun k => mulT (l.getD k ⟨#[]⟩) x) ao c (.pointer (some ⟨w.heap.size, 0, none⟩)) (w.alloc (Obj.cells #[.string x] 22)) (hr.mono B0) hl (fun k hk' W hW => by
    show Calls _ _ _ _ (Bret (.string (mulT (l.getD k ⟨#[]⟩) x)) W)
    rw [getD_get l hk']
    exact multipleCl (l[k]) x i j w.heap.size _ W (hg _ (List.getElem_mem hk')) hx hk ((hW.cell (p := ⟨w.heap.size, 0, none⟩) (by simp)).trans (by go_cell)) (hT.on (Below.chain B0 hW)).here)
  rw [map_range_getD l (fun s => mulT s x)] at C
  have HB := Lib.hid B0; have KC := Lib.hid C; clear B0 C hr hg hx hk hT htab
  generalize (l.map fun s => mulT s x) = r at *
  generalize l.length = n at *
  go_enter Tryz.func68, Tryz.ntmps68
  go_wp2_with (go_at_call 81; refine KC.out.mono ?_; rintro e w1 ⟨g, rfl, hh, hg, hb⟩; refine Hid.out ?_)
  have HH := Lib.hid hh; have HB1 := Lib.hid (Below.chain HB.out hb); have HG := Lib.hid (Nat.le_trans HB.out.size hg); clear hh hg hb
  refine Lib.hid ?_
  go_wp2
  refine bodyPost_ret (v := .slice (some ⟨g, 0, none⟩) n n) (by simp [results, Tryz.results68, go_sem]) rfl ?_
  exact ⟨g, rfl, HH.out, HG.out, HB1.out⟩

set_option maxHeartbeats 1000000 in
theorem sum_any (a b : List ByteArray) (ao : Option Addr) (ca bb bo cb i j : Nat) (w : World) (hr : SRow w ao ca a) (hs : SRow w (some ⟨bb, bo, none⟩) cb b) (hl : a.length ≤ 1000) (hlen : a.length = b.length) (ha : ∀ s ∈ a, Good i s) (hb : ∀ s ∈ b, Good j s) (hk : i + j + 1 ≤ 4096) (htab : Lib.TabIs Tryz.prog w "internal/strconv.uint64pow10" .u64 Lib.pow10Tab) :
    Calls Tryz.prog 53 #[.slice ao a.length ca, .slice (some ⟨bb, bo, none⟩) b.length cb] w fun e w' => ∃ g, e = .returned (.slice (some ⟨g, 0, none⟩) a.length a.length) ∧ XBlk 22 w' g (List.zipWith addT a b) ∧ w.heap.size ≤ g ∧ Below w.heap.size w w' := by
  have hT := Lib.tabBelow_of_tabIs htab
  have B0 : Below w.heap.size w (w.alloc (Obj.cells #[.slice (some ⟨bb, bo, none⟩) b.length cb] 25)) := (Below.refl _ _).alloc (Nat.le_refl _) _
  have C := mapped_sum a (fun k => addT (a.getD k ⟨#[]⟩) (b.getD k ⟨#[]⟩)) ao ca (.pointer (some ⟨w.heap.size, 0, none⟩)) (w.alloc (Obj.cells #[.slice (some ⟨bb, bo, none⟩) b.length cb] 25)) (hr.mono B0) hl (fun k hk' W hW => by
    have hkb : k < b.length := by omega
    show Calls _ _ _ _ (Bret (.string (addT (a.getD k ⟨#[]⟩) (b.getD k ⟨#[]⟩))) W)
    rw [getD_get a hk', getD_get b hkb]
    have hB := Below.chain B0 hW
    obtain ⟨b2, o2, e, -, h2⟩ := (hs.mono hB).get k hkb
    cases e
    exact sumCl (a[k]) (b[k]) i j bb bo b.length cb w.heap.size k W (ha _ (List.getElem_mem hk')) (hb _ (List.getElem_mem hkb)) hk hkb hs.1 hs.2.1 ((hW.cell (p := ⟨w.heap.size, 0, none⟩) (by simp)).trans (by go_cell)) h2 (hT.on hB).here)
  rw [zip_range_getD a b addT hlen] at C
  have HB := Lib.hid B0; have KC := Lib.hid C; clear B0 C hr hs ha hb hk hT htab
  generalize List.zipWith addT a b = r at *
  rw [← hlen] at *
  clear hlen
  generalize a.length = n at *
  go_enter Tryz.func53, Tryz.ntmps53
  go_wp2_with (go_at_call 81; refine KC.out.mono ?_; rintro e w1 ⟨g, rfl, hh, hg, hb⟩; refine Hid.out ?_)
  have HH := Lib.hid hh; have HB1 := Lib.hid (Below.chain HB.out hb); have HG := Lib.hid (Nat.le_trans HB.out.size hg); clear hh hg hb
  refine Lib.hid ?_
  go_wp2
  refine bodyPost_ret (v := .slice (some ⟨g, 0, none⟩) n n) (by simp [results, Tryz.results53, go_sem]) rfl ?_
  exact ⟨g, rfl, HH.out, HG.out, HB1.out⟩
end Go.Proofs.YtjobmkdaaionlaaGreatDoor

/-
  linear: terms.
-/
namespace Go.Proofs.YtjobmkdaaionlaaGreatDoor
open Go Go.Proofs Go.RowKit Go.Shelf

attribute [local go_sem] Oper.semAt_some

/-- The variables with a coefficient that is not 0, below j. -/
def nzTo (l : List ByteArray) : Nat → List (Fin l.length)
  | 0 => []
  | j + 1 => if h : j < l.length then (if l[j] = z0 then nzTo l j else nzTo l j ++ [⟨j, h⟩]) else nzTo l j
def nz (l : List ByteArray) : List (Fin l.length) := nzTo l l.length
theorem nzTo_zero {l : List ByteArray} {j : Nat} (h : j < l.length) (hz : l[j] = z0) : nzTo l (j + 1) = nzTo l j := by
  rw [nzTo, dif_pos h, if_pos hz]
theorem nzTo_more {l : List ByteArray} {j : Nat} (h : j < l.length) (hz : l[j] ≠ z0) : nzTo l (j + 1) = nzTo l j ++ [⟨j, h⟩] := by
  rw [nzTo, dif_pos h, if_neg hz]
theorem nzTo_step (l : List ByteArray) (j : Nat) : nzTo l j <+: nzTo l (j + 1) := by
  by_cases h : j < l.length
  · by_cases hz : l[j] = z0
    · rw [nzTo_zero h hz]; exact List.prefix_refl _
    · rw [nzTo_more h hz]; exact List.prefix_append _ _
  · rw [nzTo, dif_neg h]; exact List.prefix_refl _
theorem nzTo_le (l : List ByteArray) {j k : Nat} (h : j ≤ k) : nzTo l j <+: nzTo l k := by
  induction k with
  | zero => rw [Nat.le_zero.1 h]; exact List.prefix_refl _
  | succ k ih =>
    rcases Nat.lt_or_ge j (k + 1) with h1 | h1
    · exact (ih (by omega)).trans (nzTo_step l k)
    · rw [show j = k + 1 by omega]; exact List.prefix_refl _
theorem nzTo_len (l : List ByteArray) (j : Nat) : (nzTo l j).length ≤ j := by
  induction j with
  | zero => exact Nat.le_refl _
  | succ j ih =>
    by_cases h : j < l.length
    · by_cases hz : l[j] = z0
      · rw [nzTo_zero h hz]; omega
      · rw [nzTo_more h hz]; simp; omega
    · rw [nzTo, dif_neg h]; omega
def tEnc (l : List ByteArray) (x : Fin l.length) : Array Value := #[.int .i64 ((x.val : Nat) : Int), .string (l[x.val]'x.isLt)]

set_option maxRecDepth 100000 in
set_option maxHeartbeats 2000000 in
theorem terms_in (n : Nat) (hn : 1 ≤ n) (lp q rb : Nat) (l : List ByteArray) (k : Value) (ao : Option Addr) (c : Nat) (J Jx : List (Fin l.length) → World → Prop) (W : World)
    (hY : ∀ pre x W, J pre W → pre.length < (nz l).length → YieldAt Fence.wide (n - 1) Tryz.prog lp (tEnc l x) W fun e W' =>
      (e = .returned (.bool true) ∧ J (pre ++ [x]) W' ∧ KBlk rb W W') ∨ (e = .returned (.bool false) ∧ Jx (pre ++ [x]) W'))
    (hr : SRow W ao c l) (hb : 0 < l.length → ∀ a, ao = some a → a.block = rb) (hbig : l.length ≤ 1000000)
    (hcell : W.cell? ⟨q, 0, none⟩ = some (.slice ao l.length c)) (h0 : J [] W) :
    CallsIn Fence.wide n Tryz.prog 95 #[.func (.yield lp) #[] #[], .pointer (some ⟨q, 0, none⟩)] W fun e W' => (∃ v, e = .returned v) ∧
      ((∃ ys, ys = nz l ∧ J ys W') ∨ (∃ pre, pre <+: nz l ∧ Jx pre W')) := by
  have hget : ∀ V, KBlk rb W V → ∀ j (hj : j < l.length), ∃ b off, ao = some ⟨b, off, none⟩ ∧ V.cell? ⟨b, off + j, none⟩ = some (.string (l[j]'hj)) := fun V hV j hj => by
    obtain ⟨b, off, rfl, hlt, hc⟩ := hr.get j hj
    have hbb : b = rb := hb (by omega) _ rfl
    subst hbb
    exact ⟨b, off, rfl, (World.cell?_of_block (w := W) (a := ⟨b, off + j, none⟩) hV).trans hc⟩
  have KY := Lib.hid hY; have KG := Lib.hid hget; clear hY hget hr hb
  refine callsIn_of_wp Tryz.func95 rfl trivial ?_ rfl
  simp only [Tryz.ntmps95, List.size_toArray, List.length_cons, List.length_nil, Nat.reduceAdd, Nat.reduceSub, Array.replicate_succ, Array.replicate_zero, List.push_toArray, List.append_toArray, List.nil_append, List.cons_append]
  gi_wp2
  gi_loopw [8] (fun p wr => ∃ j : Nat, j ≤ l.length ∧ p = .int .i64 (j : Int) ∧ J (nzTo l j) wr ∧ KBlk rb W wr) (fun p _ => l.length - (intOf p).toNat)
  case atStart => exact ⟨0, Nat.zero_le _, rfl, h0, rfl⟩
  case round =>
    obtain ⟨j, hj, rfl, hJ, hk⟩ := hrel
    by_cases hlt : j < l.length
    · obtain ⟨b, off, rfl, hc⟩ := KG.out wr hk j hlt
      by_cases hz : l[j] = z0
      · have hN := nzTo_zero hlt hz
        have HN := Lib.hid hN; clear hN
        rw [hz] at hc
        have hc' : wr.cell? ⟨b, off + j, none⟩ = some (.string ⟨#[48]⟩) := hc
        clear hc hz
        gi_wp2
        refine ⟨(fun f h => by cases h), ?_⟩
        gi_wp2
        go_roundw
        case rel => exact ⟨j + 1, by omega, by go_num, by rw [HN.out]; exact hJ, hk⟩
        case measure => simp [intOf]; omega
      · have hN := nzTo_more hlt hz
        have hlen : (nzTo l j).length < (nz l).length := by
          have h1 := (nzTo_le l (show j + 1 ≤ l.length by omega)).length_le
          rw [hN] at h1
          have h2 : nz l = nzTo l l.length := rfl
          rw [h2]
          simp at h1; omega
        obtain ⟨fn, tmps, assign, body, hy, hR⟩ := KY.out (nzTo l j) ⟨j, hlt⟩ wr hJ hlen
        have hne : ((l[j]'hlt).toList == [48]) = false := eqLit _ [48] (fun e => hz (by rw [← str_bytes (l[j]'hlt), e]; rfl))
        have hne2 : ((l[j]'hlt).toList != [48]) = true := by unfold bne; rw [hne]; rfl
        have HN := Lib.hid hN; have HR := Lib.hid hR; clear hN hlen hz hR
        unfold tEnc at hy
        gi_wp2
        refine HR.out.mono ?_
        rintro e W3 (⟨rfl, hJ3, hk3⟩ | ⟨rfl, hJx3⟩)
        · have hk4 : KBlk rb W W3 := hk3.trans hk
          gi_wp2
          go_roundw
          case rel => exact ⟨j + 1, by omega, by go_num, by rw [HN.out]; exact hJ3, hk4⟩
          case measure => simp [intOf]; omega
        · gi_wp2
          refine bodyPost_ret (results_none rfl _ _ _) rfl ?_
          exact ⟨⟨_, rfl⟩, .inr ⟨nzTo l j ++ [⟨j, hlt⟩], by rw [← HN.out]; exact nzTo_le l (by omega), hJx3⟩⟩
    · have hjn : j = l.length := by omega
      subst hjn
      gi_wp2
      go_end0
      exact ⟨⟨_, rfl⟩, .inl ⟨_, rfl, hJ⟩⟩

set_option maxHeartbeats 1000000 in
theorem terms_any (ao : Option Addr) (n c : Nat) (k : ByteArray) (w : World) :
    Calls Tryz.prog 64 #[.agg #[.slice ao n c, .string k]] w fun e w' => e = .returned (.func (.func 95) #[] #[.pointer (some ⟨w.heap.size, 0, none⟩)]) ∧ w' = w.alloc (.cells #[.slice ao n c, .string k] 27) := by
  go_enter Tryz.func64, Tryz.ntmps64
  go_wp2
  go_ret
  exact ⟨rfl, rfl⟩
theorem terms_stops (n : Nat) (hn : 1 ≤ n) (q rb : Nat) (l : List ByteArray) (ao : Option Addr) (c : Nat) (w : World) (hr : SRow w ao c l) (hb : 0 < l.length → ∀ a, ao = some a → a.block = rb) (hbig : l.length ≤ 1000000) (hq : q < w.heap.size) (hc : w.cell? ⟨q, 0, none⟩ = some (.slice ao l.length c)) :
    SeqStopsK Fence.wide n Tryz.prog 95 #[.pointer (some ⟨q, 0, none⟩)] (tEnc l) (KBlk rb) (fun ys => ys = nz l) (fun pre => pre <+: nz l) (nz l).length w := fun lp J Jx W hW _ _ hY h0 =>
  terms_in n hn lp q rb l (.string ⟨#[]⟩) ao c J Jx W hY (hr.mono hW) hb hbig ((hW.cell (p := ⟨q, 0, none⟩) hq).trans hc) h0
theorem row_block {w : World} {ao : Option Addr} {c : Nat} {l : List ByteArray} (h : SRow w ao c l) : ∃ rb, (0 < l.length → ∀ a, ao = some a → a.block = rb) ∧ (rb = 0 ∨ rb < w.heap.size) := by
  rcases h.2.2 with ⟨rfl, -⟩ | ⟨b, off, rfl, hlt, -⟩
  · exact ⟨0, fun h => by simp at h, .inl rfl⟩
  · exact ⟨b, fun _ a ha => by cases ha; rfl, .inr hlt⟩
end Go.Proofs.YtjobmkdaaionlaaGreatDoor

/-
  linear: the numbers of an expression.
-/
set_option linter.unusedSimpArgs false
namespace Go.Proofs.YtjobmkdaaionlaaGreatDoor
open Go Go.Proofs Go.RowKit

theorem owns_base {w : World} {b b' : Nat} {e : TypeId} {s : Nat} {v : Value} {n : Nat} {xs : List Value} (h : w.ownsRow b e s v n xs) (hb : b' ≤ b) : w.ownsRow b' e s v n xs :=
  ⟨h.1, h.2.imp_right fun ⟨g, cap, cur, e1, h1, r⟩ => ⟨g, cap, cur, e1, Nat.le_trans hb h1, r⟩⟩

set_option maxRecDepth 20000 in
set_option maxHeartbeats 4000000 in
theorem numbers_any (l : List ByteArray) (k : ByteArray) (ao : Option Addr) (c : Nat) (w : World) (hr : SRow w ao c l) (hn : l.length ≤ 1000000) :
    Calls Tryz.prog 54 #[.agg #[.slice ao l.length c, .string k]] w fun e w' => ∃ v, e = .returned v ∧ w'.ownsRow w.heap.size 22 1 v (l.length + 1) (strCells (l ++ [k])) ∧ Below w.heap.size w w' := by
  obtain ⟨i0, hi, hz0, hz1, hz2⟩ := info_parts infoRat
  have C : ∀ (B : Nat) (W : World), Below w.heap.size w W → B ≤ W.heap.size → Calls Tryz.prog 83 #[.slice ao l.length c] W fun e w' => ∃ v, e = .returned v ∧ w'.ownsRow B 22 1 v l.length (strCells l) ∧ Below W.heap.size W w' := fun B W hW hB =>
    (clone_any l ao c W (hr.mono hW) hn).mono fun e w' ⟨v, h1, h2, h3⟩ => ⟨v, h1, owns_base h2 hB, h3⟩
  rw [strCells_append]
  generalize l.length = n at *
  have B0 : Below w.heap.size w (w.alloc (Obj.cells #[.slice ao n c, .string k] 27)) := (Below.refl _ _).alloc (Nat.le_refl _) _
  have x0 : (w.alloc (Obj.cells #[.slice ao n c, .string k] 27)).cell? ⟨w.heap.size, 0, none⟩ = some (.slice ao n c) := by go_cell
  have x1 : (w.alloc (Obj.cells #[.slice ao n c, .string k] 27)).cell? ⟨w.heap.size, 1, none⟩ = some (.string k) := by go_cell
  have s0 : w.heap.size < (w.alloc (Obj.cells #[.slice ao n c, .string k] 27)).heap.size := by simp
  have KC := Lib.hid C; clear C hr
  go_enter Tryz.func54, Tryz.ntmps54
  go_wp2_with fail
  generalize w.alloc (Obj.cells #[.slice ao n c, .string k] 27) = W1 at *
  have K : ∀ W : World, Below W1.heap.size W1 W → (W.cell? ⟨w.heap.size, 0, none⟩ = some (.slice ao n c) ∧ W.cell? ⟨w.heap.size, 1, none⟩ = some (.string k)) ∧ Below w.heap.size w W := fun W hW => ⟨⟨(hW.cell (p := ⟨w.heap.size, 0, none⟩) s0).trans x0, (hW.cell (p := ⟨w.heap.size, 1, none⟩) s0).trans x1⟩, Below.chain B0 hW⟩
  have KK := Lib.hid K; clear K x0 x1 B0
  have hD : Below W1.heap.size W1 W1.drew := (Below.refl _ _).drew
  have hE : Below W1.heap.size W1 (W1.alloc (Obj.cells #[.string k] 22)).drew := ((Below.refl _ _).alloc (Nat.le_refl _) _).drew
  go_region_held3 (fun w' => w'.cell? ⟨w.heap.size, 0, none⟩ = some (Value.slice ao n c) ∧ w'.cell? ⟨w.heap.size, 1, none⟩ = some (Value.string k)) (first | (with_reducible exact (KK.out _ hD).1) | (with_reducible exact (KK.out _ hE).1) | (with_reducible exact (KK.out _ hB1).1) | (with_reducible exact (KK.out _ (hB1.alloc hB1.size _)).1) | (with_reducible exact (KK.out _ hB9).1) | fail) (first
    | (go_at_call 83; (first | (with_reducible refine (KC.out W1.heap.size _ (KK.out _ hD).2 hD.size).mono ?_); rintro e w1 ⟨v1, rfl, ho1, hb1⟩; have hB1 := Below.chain hD hb1 | (with_reducible refine (KC.out W1.heap.size _ (KK.out _ hE).2 hE.size).mono ?_); rintro e w1 ⟨v1, rfl, ho1, hb1⟩; have hB1 := Below.chain hE hb1))
    | (refine step_append_lies _ rfl (.tmp 5) (.tmp 8) 25 rfl W1.heap.size 22 i0 (.string ⟨#[]⟩) 1 16 Tryz.underlying25 hi hz0 hz1 hz2 rfl (by decide) v1 n (strCells l) (by simp [Act.eval, Act.put]) (ho1.alloc _) ⟨w1.heap.size, 0, none⟩ 1 1 [.string k] (by simp [Act.eval, Act.put]) rfl (cell_one_new _ _ _) (by intro u hu; simp at hu; subst hu; rfl) (by decide) (by unfold maxLen; omega) (by omega) ?_ _ rfl ?_; (exact Nat.le_trans hB1.size (by simp)); intro g cap w9 hown9 hgrow _ hg9; have hB9 := (hB1.alloc hB1.size _).grown hgrow (Nat.le_trans hB1.size (by simp)) (fun k hk => (ho1.lt k hk).1))
    | (refine step_append_lies _ rfl (.tmp 5) (.tmp 8) 25 rfl W1.heap.size 22 i0 (.string ⟨#[]⟩) 1 16 Tryz.underlying25 hi hz0 hz1 hz2 rfl (by decide) v1 n (strCells l) (by simp [Act.eval, Act.put]) ho1 ⟨W1.heap.size, 0, none⟩ 1 1 [.string k] (by simp [Act.eval, Act.put]) rfl (fun j u hj => by match j, hj with | 0, hj => (simp at hj; subst hj; exact (hb1.cell (p := ⟨W1.heap.size, 0, none⟩) (by simp)).trans (by go_cell))) (by intro u hu; simp at hu; subst hu; rfl) (by decide) (by unfold maxLen; omega) (by omega) ?_ _ rfl ?_; (exact hB1.size); intro g cap w9 hown9 hgrow _ hg9; have hB9 := hB1.grown hgrow hB1.size (fun k hk => (ho1.lt k hk).1)))
  all_goals
    have HB := Lib.hid (KK.out _ hB9).2
    have HO := Lib.hid (owns_base hown9 (Nat.le_of_lt s0))
    go_wp2
    refine bodyPost_ret (v := .slice (some ⟨g, 0, none⟩) (n + 1) cap) (by simp [results, Tryz.results54, go_sem]) rfl ?_
    exact ⟨_, rfl, HO.out, HB.out⟩
end Go.Proofs.YtjobmkdaaionlaaGreatDoor

/-
  linear: Check.
-/
namespace Go.Proofs.YtjobmkdaaionlaaGreatDoor
open Go Go.Proofs Go.RowKit

/-- The error of an expression. -/
def linE (l : List ByteArray) (k : ByteArray) : Nat := if 32 < l.length then 5 else firstE (l ++ [k])

set_option maxHeartbeats 2000000 in
theorem linCheck (l : List ByteArray) (k : ByteArray) (ao : Option Addr) (c : Nat) (w : World) (hr : SRow w ao c l) (hz : ∀ s ∈ l ++ [k], s.size ≤ 800000) (hn : l.length ≤ 1000000) (htab : Lib.TabIs Tryz.prog w "internal/strconv.uint64pow10" .u64 Lib.pow10Tab) :
    Calls Tryz.prog 26 #[.agg #[.slice ao l.length c, .string k]] w (Bret (.int .i64 (linE l k : Nat)) w) := by
  have hT := Lib.tabBelow_of_tabIs htab
  have CN : ∀ W : World, Below w.heap.size w W → Calls Tryz.prog 54 #[.agg #[.slice ao l.length c, .string k]] W fun e w' => ∃ a2 c2, e = .returned (.slice a2 (l.length + 1) c2) ∧ SRow w' a2 c2 (l ++ [k]) ∧ Below W.heap.size W w' := fun W hW =>
    (numbers_any l k ao c W (hr.mono hW) hn).mono fun e w' ⟨v, h1, h2, h3⟩ => by
      have hl : l.length + 1 = (l ++ [k]).length := by simp
      rw [hl] at h2
      obtain ⟨a2, c2, rfl, h4⟩ := srow_of_owns h2
      exact ⟨a2, c2, by rw [hl]; exact h1, h4, h3⟩
  have CC : ∀ (W : World) (a2 : Option Addr) (c2 : Nat), Below w.heap.size w W → SRow W a2 c2 (l ++ [k]) → Calls Tryz.prog 66 #[.slice a2 (l.length + 1) c2] W (Bret (.int .i64 (firstE (l ++ [k]) : Nat)) W) := fun W a2 c2 hW h => by
    have := checkNumbersL (l ++ [k]) a2 c2 W h hz (by simp; omega) (hT.on hW).here
    rwa [show (l ++ [k]).length = l.length + 1 by simp] at this
  unfold linE
  generalize firstE (l ++ [k]) = f at *
  generalize l ++ [k] = m at *
  have KN := Lib.hid CN; have KC := Lib.hid CC; clear CN CC hr hz hT htab
  generalize l.length = n at *
  have B0 := Lib.hid (show Below w.heap.size w (w.alloc (Obj.cells #[.slice ao n c, .string k] 27)) from (Below.refl _ _).alloc (Nat.le_refl _) _)
  by_cases h32 : 32 < n
  · rw [if_pos h32]
    clear KN KC
    go_enter Tryz.func26, Tryz.ntmps26
    go_wp2
    refine bodyPost_ret (v := .int .i64 5) (by simp [results, Tryz.results26, go_sem]) rfl ?_
    exact ⟨rfl, B0.out⟩
  · rw [if_neg h32]
    go_enter Tryz.func26, Tryz.ntmps26
    go_wp2_with (go_at_call 54; refine (KN.out _ B0.out).mono ?_; rintro e w1 ⟨a2, c2, rfl, hs2, hb1⟩; refine Hid.out ?_)
    have hB1 := Below.chain B0.out hb1; clear hb1
    have HS := Lib.hid hs2; clear hs2
    refine Lib.hid ?_
    go_wp2_with (go_at_call 66; refine (KC.out _ _ _ hB1 HS.out).mono ?_; rintro e w2 ⟨rfl, hb2⟩; refine Hid.out ?_)
    have HB2 := Lib.hid (Below.chain hB1 hb2); clear hb2 hB1
    refine Lib.hid ?_
    go_wp2
    refine bodyPost_ret (v := .int .i64 (f : Nat)) (by simp [results, Tryz.results26, go_sem]) rfl ?_
    exact ⟨rfl, HB2.out⟩

theorem firstE_cases (l : List ByteArray) : firstE l = 0 ∨ firstE l = 3 ∨ firstE l = 10 := by
  induction l with
  | nil => exact .inl rfl
  | cons s t ih =>
    show (if numE (bytes s) = 0 then firstE t else numE (bytes s)) = 0 ∨ (if numE (bytes s) = 0 then firstE t else numE (bytes s)) = 3 ∨ (if numE (bytes s) = 0 then firstE t else numE (bytes s)) = 10
    split
    · exact ih
    · exact numE_cases _

end Go.Proofs.YtjobmkdaaionlaaGreatDoor

/-
  linear: expression.
-/
namespace Go.Proofs.YtjobmkdaaionlaaGreatDoor
open Go Go.Proofs Go.RowKit

def shortS (s : ByteArray) : Bool := shortN (bytes s)
theorem SRow.front {w : World} {ao : Option Addr} {c : Nat} {l : List ByteArray} {k : ByteArray} (h : SRow w ao c (l ++ [k])) : SRow w ao l.length l := by
  have h1 := h.1
  rw [List.length_append] at h1
  refine ⟨Nat.le_refl _, by have := h.2.1; simp at h1; omega, ?_⟩
  rcases h.2.2 with ⟨e, -⟩ | ⟨b, off, e, hlt, hc⟩
  · simp at e
  · exact .inr ⟨b, off, e, hlt, fun j hj => by rw [hc j (by simp; omega), List.getElem_append_left hj]⟩
/-- What the numbers make. -/
def exprO (l : List ByteArray) (k : ByteArray) : LOut := if (l ++ [k]).all shortS = true then ⟨l, k, 0⟩ else .bad 10

set_option maxHeartbeats 2000000 in
theorem expression_any (l : List ByteArray) (k : ByteArray) (ao : Option Addr) (c : Nat) (w : World) (hr : SRow w ao c (l ++ [k])) (hz : ∀ s ∈ l ++ [k], s.size ≤ 800000) (hn : l.length ≤ 1000000) (Bd : Nat) (hB : ∀ a, ao = some a → Bd ≤ a.block) :
    Calls Tryz.prog 46 #[.slice ao (l.length + 1) c] w (LinRet Bd (exprO l k) w) := by
  obtain ⟨b, off, rfl, hb0, -⟩ := hr.get 0 (by simp)
  have HBd := Lib.hid hB; clear hB
  have hg : ∀ W, Below w.heap.size w W → ∀ j (hj : j < (l ++ [k]).length), W.cell? ⟨b, off + j, none⟩ = some (.string ((l ++ [k])[j]'hj)) := fun W hW j hj => by
    obtain ⟨b2, off2, e, -, h⟩ := (hr.mono hW).get j hj
    cases e; exact h
  have hf := hr.front
  have hfr : ∀ W, Below w.heap.size w W → SRow W (some ⟨b, off, none⟩) l.length l := fun W hW => hf.mono hW
  have hlen : (l ++ [k]).length = l.length + 1 := by simp
  have hlast : ∀ W, Below w.heap.size w W → W.cell? ⟨b, off + l.length, none⟩ = some (.string k) := fun W hW => by
    rw [hg W hW l.length (by simp), List.getElem_concat_length rfl]
  have hcap : l.length + 1 ≤ c ∧ c ≤ 9223372036854775807 := by have := hr.1; rw [hlen] at this; exact ⟨this, hr.2.1⟩
  have hO : exprO l k = if (l ++ [k]).all shortS = true then ⟨l, k, 0⟩ else .bad 10 := rfl
  have HG := Lib.hid hg; have HS := Lib.hid hz; have HF := Lib.hid hfr; have HLA := Lib.hid hlast; have HO := Lib.hid hO
  obtain ⟨hc1, hc2⟩ := hcap
  clear hg hz hf hfr hlast hr hb0 hO
  generalize l ++ [k] = m at *
  generalize hnl : l.length = n at hlen hn hc1 ⊢
  have HLEN := Lib.hid hlen; have HNL := Lib.hid hnl; clear hlen hnl
  go_enter Tryz.func46, Tryz.ntmps46
  go_wp2_with fail
  have A0 : Below w.heap.size w (w.alloc (Obj.cells #[.slice none 0 0, .string ⟨#[]⟩] 27)) := (Below.refl _ _).alloc (Nat.le_refl _) _
  have x0 : (w.alloc (Obj.cells #[.slice none 0 0, .string ⟨#[]⟩] 27)).cell? ⟨w.heap.size, 0, none⟩ = some (.slice none 0 0) := by go_cell
  have x1 : (w.alloc (Obj.cells #[.slice none 0 0, .string ⟨#[]⟩] 27)).cell? ⟨w.heap.size, 1, none⟩ = some (.string ⟨#[]⟩) := by go_cell
  have f0 : (w.alloc (Obj.cells #[.slice none 0 0, .string ⟨#[]⟩] 27)).frozen? ⟨w.heap.size, 0, none⟩ = false := by go_cell
  have f1 : (w.alloc (Obj.cells #[.slice none 0 0, .string ⟨#[]⟩] 27)).frozen? ⟨w.heap.size, 1, none⟩ = false := by go_cell
  have s0 : w.heap.size < (w.alloc (Obj.cells #[.slice none 0 0, .string ⟨#[]⟩] 27)).heap.size := by simp
  generalize w.alloc (Obj.cells #[.slice none 0 0, .string ⟨#[]⟩] 27) = W0 at *
  have HX0 := Lib.hid x0; have HX1 := Lib.hid x1; have HF0 := Lib.hid f0; have HF1 := Lib.hid f1; have HS0 := Lib.hid s0; have HA0 := Lib.hid A0
  clear x0 x1 f0 f1 s0 A0
  go_loopw [9] (fun iv wr => ∃ j : Nat, j ≤ n + 1 ∧ iv = .int .i64 j ∧ (m.take j).all shortS = true ∧ Below W0.heap.size W0 wr) (fun iv _ => n + 1 - (intOf iv).toNat)
  case atStart => exact ⟨0, Nat.zero_le _, rfl, rfl, Below.refl _ _⟩
  case round =>
    obtain ⟨j, hj, rfl, hall, hbw⟩ := hrel
    have hbb := Below.chain HA0.out hbw
    have HALL := Lib.hid hall; have HB := Lib.hid hbw; have HBB := Lib.hid hbb; clear hall hbb
    have x0 := (hbw.cell (p := ⟨w.heap.size, 0, none⟩) HS0.out).trans HX0.out
    have x1 := (hbw.cell (p := ⟨w.heap.size, 1, none⟩) HS0.out).trans HX1.out
    have f0 := (hbw.frozen (p := ⟨w.heap.size, 0, none⟩) HS0.out).trans HF0.out
    have f1 := (hbw.frozen (p := ⟨w.heap.size, 1, none⟩) HS0.out).trans HF1.out
    have s1 := Nat.lt_of_lt_of_le HS0.out hbw.size
    clear hbw
    by_cases hlt : j < n + 1
    · have hlt' : j < m.length := by rw [HLEN.out]; exact hlt
      have ck := HG.out wr HBB.out j hlt'
      have hz := HS.out _ (List.getElem_mem hlt')
      have C := isShortN (m[j]'hlt') wr (by omega)
      have hsucc := take_all_succ shortS m j hlt'
      rw [HALL.out, Bool.true_and] at hsucc
      have hbad := take_all_false shortS m j hlt'
      have hdef : shortS (m[j]'hlt') = shortN (bytes (m[j]'hlt')) := rfl
      rw [← hdef] at C
      generalize hbv : shortS (m[j]'hlt') = bv at *
      generalize m[j]'hlt' = sk at *
      have HSU := Lib.hid hsucc
      clear hsucc hdef
      cases bv
      · have hbad2 := hbad rfl
        have KC := Lib.hid C; have HBA2 := Lib.hid hbad2; clear C hbad hbad2
        go_wp2_with (go_at_call 61; refine KC.out.mono ?_; rintro e w3 ⟨rfl, hb3⟩; refine Hid.out ?_)
        have hB3 := Below.chain HB.out hb3
        have y0 := (hB3.cell (p := ⟨w.heap.size, 0, none⟩) HS0.out).trans HX0.out
        have y1 := (hB3.cell (p := ⟨w.heap.size, 1, none⟩) HS0.out).trans HX1.out
        have g0 := (hB3.frozen (p := ⟨w.heap.size, 0, none⟩) HS0.out).trans HF0.out
        have g1 := (hB3.frozen (p := ⟨w.heap.size, 1, none⟩) HS0.out).trans HF1.out
        have s3 := Nat.lt_of_lt_of_le HS0.out hB3.size
        have HB3 := Lib.hid (Below.chain HA0.out hB3)
        clear hb3 hB3 x0 x1 f0 f1 s1 ck
        have q := box2 y0 y1 (.slice none 0 0) (.string ⟨#[]⟩)
        have ho := HO.out
        rw [HBA2.out, if_neg (by decide)] at ho
        have HOO := Lib.hid ho; clear ho HO
        refine Lib.hid ?_
        go_wp2
        obtain ⟨q1, q2⟩ := q
        refine bodyPost_ret (v := .tuple #[.agg #[.slice none 0 0, .string ⟨#[]⟩], .int .i64 10]) (by simp [results, Tryz.results46, go_sem, q1, q2]) rfl ?_
        rw [HOO.out]
        exact ⟨none, 0, rfl, RowB.nil _ _, below2 HB3.out (Nat.le_refl _) _ _⟩
      · have KC := Lib.hid C; clear C hbad
        go_wp2_with (go_at_call 61; refine KC.out.mono ?_; rintro e w3 ⟨rfl, hb3⟩; refine Hid.out ?_)
        refine Lib.hid ?_
        go_wp2
        go_roundw
        case rel => exact ⟨j + 1, by omega, by go_num, HSU.out, Below.chain HB.out hb3⟩
        case measure => simp [intOf]; omega
    · have hjn : j = n + 1 := by omega
      subst hjn
      have ck := HLA.out wr HBB.out
      rw [HNL.out] at ck
      have i1 : IntKind.i64.wrap ((n : Int) + 1 - 1) = n := by rw [IntKind.wrap_i64]; omega
      have q0 : (0 : Int) ≤ (n : Int) := by omega
      have q1 : (n : Int) ≤ (n : Int) + 1 := by omega
      have q2 : (n : Int) ≤ (c : Int) := by omega
      have q := box2 x0 x1 (.slice (some ⟨b, off, none⟩) n n) (.string k)
      have ho := HO.out
      rw [show m.all shortS = true by have h := HALL.out; rwa [List.take_of_length_le (by rw [HLEN.out]; omega)] at h, if_pos rfl] at ho
      have HOO := Lib.hid ho; clear ho HO
      have hfr := HF.out
      rw [HNL.out] at hfr
      have HFR := Lib.hid hfr; clear hfr
      go_wp2_with fail
      go_region
      all_goals
        go_wp2
        obtain ⟨q1, q2⟩ := q
        refine bodyPost_ret (v := .tuple #[.agg #[.slice (some ⟨b, off, none⟩) n n, .string k], .int .i64 0]) (by simp [results, Tryz.results46, go_sem, q1, q2]) rfl ?_
        have hB : Below w.heap.size w (((wr.setCell ⟨w.heap.size, 0, none⟩ (.slice (some ⟨b, off, none⟩) n n)).setCell ⟨w.heap.size, 1, none⟩ (.string k)).drew) := (below2 HBB.out (Nat.le_refl _) _ _).drew
        rw [HOO.out]
        exact ⟨some ⟨b, off, none⟩, n, by rw [HNL.out]; rfl, ⟨HFR.out _ hB, HBd.out⟩, hB⟩
end Go.Proofs.YtjobmkdaaionlaaGreatDoor
