import Derived.Test.YtbadibbdoljjhaaGreatDoorCut36

set_option linter.unusedVariables false
/-
  TopRationalsField: the walk.
-/
namespace Go.Proofs.YtbadibbdoljjhaaGreatDoor
open Go Go.Proofs Go.RowKit

theorem pRadd {s t : ByteArray} {p q : Rat} {i j : Nat} (hs : RStr s p) (ht : RStr t q) (hp : RZ i p) (hq : RZ j q) (w : World) (htab : Lib.TabIs Tryz.prog w "internal/strconv.uint64pow10" .u64 Lib.pow10Tab) (hk : i + j + 1 ≤ 4096) (b : Nat) (W : World) (hP : PlayAt W b) (hW : Below w.heap.size w W) :
    Calls Tryz.prog 72 #[(.pointer (some ⟨b, 0, none⟩)), .string s, .string t] W (Bret (.string (str (ratL (p + q)))) W) := by
  have hT := Lib.tabBelow_of_tabIs htab
  exact playR_add s t _ b W hP (fun W' hW' => raddS hs ht hp hq hk W' (hT.on (Below.chain hW hW')).here)
theorem pRsub {s t : ByteArray} {p q : Rat} {i j : Nat} (hs : RStr s p) (ht : RStr t q) (hp : RZ i p) (hq : RZ j q) (w : World) (htab : Lib.TabIs Tryz.prog w "internal/strconv.uint64pow10" .u64 Lib.pow10Tab) (hk : i + j + 1 ≤ 4096) (b : Nat) (W : World) (hP : PlayAt W b) (hW : Below w.heap.size w W) :
    Calls Tryz.prog 73 #[(.pointer (some ⟨b, 0, none⟩)), .string s, .string t] W (Bret (.string (str (ratL (p - q)))) W) := by
  have hT := Lib.tabBelow_of_tabIs htab
  exact playR_sub s t _ b W hP (fun W' hW' => rsubS hs ht hp hq hk W' (hT.on (Below.chain hW hW')).here)
theorem pRmul {s t : ByteArray} {p q : Rat} {i j : Nat} (hs : RStr s p) (ht : RStr t q) (hp : RZ i p) (hq : RZ j q) (w : World) (htab : Lib.TabIs Tryz.prog w "internal/strconv.uint64pow10" .u64 Lib.pow10Tab) (hk : i + j ≤ 4096) (b : Nat) (W : World) (hP : PlayAt W b) (hW : Below w.heap.size w W) :
    Calls Tryz.prog 74 #[(.pointer (some ⟨b, 0, none⟩)), .string s, .string t] W (Bret (.string (str (ratL (p * q)))) W) := by
  have hT := Lib.tabBelow_of_tabIs htab
  exact playR_mul s t _ b W hP (fun W' hW' => rmulS hs ht hp hq hk W' (hT.on (Below.chain hW hW')).here)
theorem pRdiv {s t : ByteArray} {p q : Rat} {i j : Nat} (hs : RStr s p) (ht : RStr t q) (hp : RZ i p) (hq : RZ j q) (h0 : q ≠ 0) (w : World) (htab : Lib.TabIs Tryz.prog w "internal/strconv.uint64pow10" .u64 Lib.pow10Tab) (hk : i + j ≤ 4096) (b : Nat) (W : World) (hP : PlayAt W b) (hW : Below w.heap.size w W) :
    Calls Tryz.prog 75 #[(.pointer (some ⟨b, 0, none⟩)), .string s, .string t] W (Bret (.string (str (ratL (p / q)))) W) := by
  have hT := Lib.tabBelow_of_tabIs htab
  exact playR_div s t _ b W hP (fun W' hW' => rdivS hs ht hp hq h0 hk W' (hT.on (Below.chain hW hW')).here)
theorem pRorder {s t : ByteArray} {p q : Rat} {i j : Nat} (hs : RStr s p) (ht : RStr t q) (hp : RZ i p) (hq : RZ j q) (w : World) (htab : Lib.TabIs Tryz.prog w "internal/strconv.uint64pow10" .u64 Lib.pow10Tab) (hk : i + j ≤ 4096) (b : Nat) (W : World) (hP : PlayAt W b) (hW : Below w.heap.size w W) :
    Calls Tryz.prog 76 #[(.pointer (some ⟨b, 0, none⟩)), .string s, .string t] W (Bret (.int .i64 (ordQ p q)) W) := by
  have hT := Lib.tabBelow_of_tabIs htab
  exact playR_order s t _ b W hP (fun W' hW' => rcmpS hs ht hp hq hk W' (hT.on (Below.chain hW hW')).here)
theorem neq_lists {s t : ByteArray} (h : s ≠ t) : (s.toList == t.toList) = false := by
  rw [beq_eq_false_iff_ne]; intro e
  exact h (ByteArray.ext (Array.toList_inj.1 (by rw [ByteArray.toList_eq, ByteArray.toList_eq] at e; exact e)))
theorem eq_lists {s t : ByteArray} (h : s = t) : (s.toList == t.toList) = true := by subst h; exact beq_self_eq_true _
theorem one_div {p : Rat} (h : p ≠ 0) : p * (1 / p) = 1 := by rw [Rat.div_def, Rat.one_mul]; exact Rat.mul_inv_cancel p h
theorem mul_div_left {p q : Rat} (h : p ≠ 0) : p * q / p = q := by rw [Rat.mul_comm]; exact Rat.mul_div_cancel h
theorem one_rstr : RStr ⟨#[49]⟩ 1 := q1_str
theorem zone : RZ 1 1 := ⟨by unfold Sz; decide, by unfold Sz; decide⟩
theorem zzero : RZ 1 0 := ⟨by unfold Sz; decide, by unfold Sz; decide⟩
end Go.Proofs.YtbadibbdoljjhaaGreatDoor
