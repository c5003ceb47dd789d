import Derived.Test.YtbadibbdoljjhaaGreatDoorTd1
import Derived.Deep.RegionHeld3

set_option linter.unusedVariables false
/-
  The words of the statements across the layers: playInts, playRats.
-/
namespace Go.Proofs.YtbadibbdoljjhaaGreatDoor
open Go Go.Proofs Go.RowKit

theorem modify_self {α : Type} (xs : Array α) (i : Nat) (f : α → α) (h : ∀ x, xs[i]? = some x → f x = x) : xs.modify i f = xs := by
  apply Array.ext
  · simp
  · intro j h1 h2
    rw [Array.getElem_modify]
    split
    · next e => subst e; exact h _ (Array.getElem?_eq_some_iff.2 ⟨h2, rfl⟩)
    · rfl
theorem setIf_self {α : Type} (c : Array α) (i : Nat) (v : α) (h : c[i]? = some v) : c.setIfInBounds i v = c := by
  apply Array.ext
  · simp
  · intro j h1 h2
    rw [Array.getElem_setIfInBounds]
    split
    · next e => subst e; exact (Array.getElem?_eq_some_iff.1 h).2.symm
    · rfl
theorem setCell_self (w : World) (a : Addr) (v : Value) (h : w.cell? a = some v) : w.setCell a v = w := by
  have k : ∀ H, H = w.heap → ({ w with heap := H } : World) = w := by rintro _ rfl; rfl
  unfold World.setCell
  refine k _ (modify_self _ _ _ (fun x hx => ?_))
  unfold World.cell? at h
  rw [hx] at h
  cases x with
  | cells c elem fr =>
    dsimp only at h ⊢
    split at h
    · cases h
    · next hs => rw [if_neg hs, setIf_self c a.off v h]
  | _ => rfl

/-- The box of an accountant for whom all went well. -/
structure PlayAt (W : World) (b : Nat) : Prop where
  cell : W.cell? ⟨b, 0, none⟩ = some (.bool true)
  fr : W.frozen? ⟨b, 0, none⟩ = false
  lt : b < W.heap.size
theorem PlayAt.mono {W W' : World} {b : Nat} (h : PlayAt W b) (g : Below W.heap.size W W') : PlayAt W' b :=
  ⟨(g.cell (p := ⟨b, 0, none⟩) h.lt).trans h.cell, (g.frozen (p := ⟨b, 0, none⟩) h.lt).trans h.fr, Nat.lt_of_lt_of_le h.lt g.size⟩
theorem play_new (W : World) (T : TypeId) : PlayAt (W.alloc (Obj.cells #[.bool true] T)) W.heap.size := ⟨by go_cell, by go_cell, by simp⟩

set_option maxHeartbeats 1000000 in
theorem playI_of (s : ByteArray) (b : Nat) (w : World) (h : PlayAt w b) :
    Calls Tryz.prog 63 #[(.pointer (some ⟨b, 0, none⟩)), .string s, .int .i64 0] w fun e w' => e = .returned (.string s) ∧ w' = w := by
  have c0 := h.cell; have f0 := h.fr; have l0 := h.lt
  have hs := setCell_self w ⟨b, 0, none⟩ (.bool true) c0
  have HS := Lib.hid hs; clear hs h
  go_enter Tryz.func63, Tryz.ntmps63
  go_wp2
  refine bodyPost_ret (v := .string s) (by simp [results, Tryz.results63, go_sem]) rfl ?_
  exact ⟨rfl, HS.out⟩

set_option maxHeartbeats 1000000 in
theorem playI_add (s t r : ByteArray) (b : Nat) (w : World) (h : PlayAt w b)
    (C1 : ∀ W : World, Below w.heap.size w W → Calls Tryz.prog 78 #[.string s, .string t] W (Bret (.tuple #[.string r, .int .i64 0]) W)) :
    Calls Tryz.prog 60 #[(.pointer (some ⟨b, 0, none⟩)), .string s, .string t] w (Bret (.string r) w) := by
  have C2 : ∀ W : World, Below w.heap.size w W → Calls Tryz.prog 63 #[(.pointer (some ⟨b, 0, none⟩)), .string r, .int .i64 0] W fun e w' => e = .returned (.string r) ∧ w' = W := fun W hW => playI_of r b W (h.mono hW)
  have K1 := Lib.hid C1; have K2 := Lib.hid C2; clear C1 C2 h
  go_enter Tryz.func60, Tryz.ntmps60
  go_wp2_with (go_at_call 78; refine (K1.out _ (Below.refl _ _)).mono ?_; rintro e w1 ⟨rfl, hb1⟩; refine Hid.out ?_)
  have HB := Lib.hid hb1; clear hb1
  refine Lib.hid ?_
  go_wp2_with (go_at_call 63; refine (K2.out _ HB.out).mono ?_; rintro e w2 ⟨rfl, h⟩; subst h; refine Hid.out ?_)
  refine Lib.hid ?_
  go_wp2
  refine bodyPost_ret (v := .string r) (by simp [results, Tryz.results60, go_sem]) rfl ?_
  exact ⟨rfl, HB.out⟩

set_option maxHeartbeats 1000000 in
theorem playI_sub (s t r : ByteArray) (b : Nat) (w : World) (h : PlayAt w b)
    (C1 : ∀ W : World, Below w.heap.size w W → Calls Tryz.prog 53 #[.string s, .string t] W (Bret (.tuple #[.string r, .int .i64 0]) W)) :
    Calls Tryz.prog 61 #[(.pointer (some ⟨b, 0, none⟩)), .string s, .string t] w (Bret (.string r) w) := by
  have C2 : ∀ W : World, Below w.heap.size w W → Calls Tryz.prog 63 #[(.pointer (some ⟨b, 0, none⟩)), .string r, .int .i64 0] W fun e w' => e = .returned (.string r) ∧ w' = W := fun W hW => playI_of r b W (h.mono hW)
  have K1 := Lib.hid C1; have K2 := Lib.hid C2; clear C1 C2 h
  go_enter Tryz.func61, Tryz.ntmps61
  go_wp2_with (go_at_call 53; refine (K1.out _ (Below.refl _ _)).mono ?_; rintro e w1 ⟨rfl, hb1⟩; refine Hid.out ?_)
  have HB := Lib.hid hb1; clear hb1
  refine Lib.hid ?_
  go_wp2_with (go_at_call 63; refine (K2.out _ HB.out).mono ?_; rintro e w2 ⟨rfl, h⟩; subst h; refine Hid.out ?_)
  refine Lib.hid ?_
  go_wp2
  refine bodyPost_ret (v := .string r) (by simp [results, Tryz.results61, go_sem]) rfl ?_
  exact ⟨rfl, HB.out⟩

set_option maxHeartbeats 1000000 in
theorem playI_mul (s t r : ByteArray) (b : Nat) (w : World) (h : PlayAt w b)
    (C1 : ∀ W : World, Below w.heap.size w W → Calls Tryz.prog 57 #[.string s, .string t] W (Bret (.tuple #[.string r, .int .i64 0]) W)) :
    Calls Tryz.prog 62 #[(.pointer (some ⟨b, 0, none⟩)), .string s, .string t] w (Bret (.string r) w) := by
  have C2 : ∀ W : World, Below w.heap.size w W → Calls Tryz.prog 63 #[(.pointer (some ⟨b, 0, none⟩)), .string r, .int .i64 0] W fun e w' => e = .returned (.string r) ∧ w' = W := fun W hW => playI_of r b W (h.mono hW)
  have K1 := Lib.hid C1; have K2 := Lib.hid C2; clear C1 C2 h
  go_enter Tryz.func62, Tryz.ntmps62
  go_wp2_with (go_at_call 57; refine (K1.out _ (Below.refl _ _)).mono ?_; rintro e w1 ⟨rfl, hb1⟩; refine Hid.out ?_)
  have HB := Lib.hid hb1; clear hb1
  refine Lib.hid ?_
  go_wp2_with (go_at_call 63; refine (K2.out _ HB.out).mono ?_; rintro e w2 ⟨rfl, h⟩; subst h; refine Hid.out ?_)
  refine Lib.hid ?_
  go_wp2
  refine bodyPost_ret (v := .string r) (by simp [results, Tryz.results62, go_sem]) rfl ?_
  exact ⟨rfl, HB.out⟩

theorem whole_three (s t u : ByteArray) (w : World) (hs : s.size ≤ 9223372036854775807) (ht : t.size ≤ 9223372036854775807) (hu : u.size ≤ 9223372036854775807) :
    Calls Tryz.prog 58 #[.slice (some ⟨w.heap.size, 0, none⟩) 3 3] (w.alloc (Obj.cells #[.string s, .string t, .string u] 22)) (Bret (.bool (wholeB s && (wholeB t && wholeB u))) (w.alloc (Obj.cells #[.string s, .string t, .string u] 22))) := by
  have := playWhole_any [s, t, u] w.heap.size 3 (w.alloc (Obj.cells #[.string s, .string t, .string u] 22)) (fun j h => by
    match j, h with
    | 0, _ => show _ = some (Value.string s); go_cell
    | 1, _ => show _ = some (Value.string t); go_cell
    | 2, _ => show _ = some (Value.string u); go_cell) (by simp) (fun x hx => by simp at hx; rcases hx with rfl | rfl | rfl <;> assumption) (by simp)
  rwa [all_three] at this
theorem str_sz {s : ByteArray} {z : Int} {k : Nat} (h : Str s z) (hk : s.size ≤ k) : Sz k z := by
  have h2 := txt_len h.text
  exact dec_pow (by split at h2 <;> omega)
theorem whole_str {s : ByteArray} (h : wholeB s = true) : Str s (valZ (bytes s)) ∧ Sz 400 (valZ (bytes s)) := by
  unfold wholeB at h
  rw [Bool.and_eq_true, decide_eq_true_eq, decide_eq_true_eq] at h
  exact ⟨str_of_err h.2, str_sz (str_of_err h.2) h.1⟩
end Go.Proofs.YtbadibbdoljjhaaGreatDoor

/-
  TopIntegersRing: the walk.
-/
namespace Go.Proofs.YtbadibbdoljjhaaGreatDoor
open Go Go.Proofs Go.RowKit

theorem pIadd {s t : ByteArray} {x y : Int} {i j : Nat} (hs : Str s x) (ht : Str t y) (hx : Sz i x) (hy : Sz j y) (w : World) (htab : Lib.TabIs Tryz.prog w "internal/strconv.uint64pow10" .u64 Lib.pow10Tab) (hk : i + j + 1 ≤ 4096) (h0 : 0 < i + j + 1) (b : Nat) (W : World) (hP : PlayAt W b) (hW : Below w.heap.size w W) :
    Calls Tryz.prog 60 #[(.pointer (some ⟨b, 0, none⟩)), .string s, .string t] W (Bret (.string (str (Lib.itoa (x + y)))) W) := by
  have hT := Lib.tabBelow_of_tabIs htab
  refine playI_add s t _ b W hP (fun W' hW' => ?_)
  have := addZ s t x y W' hs ht (hT.on (Below.chain hW hW')).here
  rwa [resV_fits (Sz.fits ((hx.mono (by omega : i ≤ i + j)).add (hy.mono (by omega))) h0 hk)] at this
theorem pIsub {s t : ByteArray} {x y : Int} {i j : Nat} (hs : Str s x) (ht : Str t y) (hx : Sz i x) (hy : Sz j y) (w : World) (htab : Lib.TabIs Tryz.prog w "internal/strconv.uint64pow10" .u64 Lib.pow10Tab) (hk : i + j + 1 ≤ 4096) (h0 : 0 < i + j + 1) (b : Nat) (W : World) (hP : PlayAt W b) (hW : Below w.heap.size w W) :
    Calls Tryz.prog 61 #[(.pointer (some ⟨b, 0, none⟩)), .string s, .string t] W (Bret (.string (str (Lib.itoa (x - y)))) W) := by
  have hT := Lib.tabBelow_of_tabIs htab
  refine playI_sub s t _ b W hP (fun W' hW' => ?_)
  have := subZ s t x y W' hs ht (hT.on (Below.chain hW hW')).here
  rwa [resV_fits (Sz.fits (by rw [Int.sub_eq_add_neg]; exact (hx.mono (by omega : i ≤ i + j)).add (hy.neg.mono (by omega))) h0 hk)] at this
theorem pImul {s t : ByteArray} {x y : Int} {i j : Nat} (hs : Str s x) (ht : Str t y) (hx : Sz i x) (hy : Sz j y) (w : World) (htab : Lib.TabIs Tryz.prog w "internal/strconv.uint64pow10" .u64 Lib.pow10Tab) (hk : i + j ≤ 4096) (h0 : 0 < i + j) (b : Nat) (W : World) (hP : PlayAt W b) (hW : Below w.heap.size w W) :
    Calls Tryz.prog 62 #[(.pointer (some ⟨b, 0, none⟩)), .string s, .string t] W (Bret (.string (str (Lib.itoa (x * y)))) W) := by
  have hT := Lib.tabBelow_of_tabIs htab
  refine playI_mul s t _ b W hP (fun W' hW' => ?_)
  have := mulZ s t x y W' hs ht (hT.on (Below.chain hW hW')).here
  rwa [resV_fits (Sz.fits (hx.mul hy) h0 hk)] at this
theorem Sz.plus {i j : Nat} {x y : Int} (hx : Sz i x) (hy : Sz j y) : Sz (i + j + 1) (x + y) := (hx.mono (by omega : i ≤ i + j)).add (hy.mono (by omega))
theorem Sz.minus {i j : Nat} {x y : Int} (hx : Sz i x) (hy : Sz j y) : Sz (i + j + 1) (x - y) := by rw [Int.sub_eq_add_neg]; exact hx.plus hy.neg
end Go.Proofs.YtbadibbdoljjhaaGreatDoor

/-
  TopIntegersOrdered: the closure.
-/
namespace Go.Proofs.YtbadibbdoljjhaaGreatDoor
open Go Go.Proofs Go.RowKit

structure PlayCl (W : World) (b k : Nat) : Prop where
  box : PlayAt W b
  cell : W.cell? ⟨k, 0, none⟩ = some (.pointer (some ⟨b, 0, none⟩))
  lt : k < W.heap.size
theorem PlayCl.mono {W W' : World} {b k : Nat} (h : PlayCl W b k) (g : Below W.heap.size W W') : PlayCl W' b k :=
  ⟨h.box.mono g, (g.cell (p := ⟨k, 0, none⟩) h.lt).trans h.cell, Nat.lt_of_lt_of_le h.lt g.size⟩

set_option maxHeartbeats 2000000 in
theorem ordI (s t : ByteArray) (c : Int) (b k : Nat) (w : World) (h : PlayCl w b k)
    (C1 : ∀ W : World, Below w.heap.size w W → Calls Tryz.prog 67 #[.string s, .string t] W (Bret (.tuple #[.int .i64 c, .int .i64 0]) W)) :
    Calls Tryz.prog 68 #[.string s, .string t, (.pointer (some ⟨k, 0, none⟩))] w (Bret (.int .i64 c) w) := by
  have K1 := Lib.hid C1; have KP := Lib.hid h; clear C1 h
  go_enter Tryz.func68, Tryz.ntmps68
  go_wp2_with (go_at_call 67; refine (K1.out _ (Below.refl _ _)).mono ?_; rintro e w1 ⟨rfl, hb1⟩; refine Hid.out ?_)
  have P1 := KP.out.mono hb1
  have c0 := P1.box.cell; have f0 := P1.box.fr; have l0 := P1.box.lt; have ck := P1.cell
  have HB := Lib.hid hb1; have HS := Lib.hid (setCell_self w1 ⟨b, 0, none⟩ (.bool true) c0); clear hb1 P1
  refine Lib.hid ?_
  go_wp2_with fail
  go_region
  all_goals go_wp2
  all_goals refine bodyPost_ret (v := .int .i64 c) (by simp [results, Tryz.results68, go_sem]) rfl ?_
  all_goals exact ⟨rfl, by rw [HS.out]; exact HB.out.drew⟩

theorem PlayCl.keep2 {W : World} {b k : Nat} (h : PlayCl W b k) : W.cell? ⟨k, 0, none⟩ = some (Value.pointer (some ⟨b, 0, none⟩)) ∧ W.cell? ⟨b, 0, none⟩ = some (Value.bool true) := ⟨h.cell, h.box.cell⟩
theorem playcl_new (w0 : World) (T T' : TypeId) : PlayCl ((w0.alloc (Obj.cells #[Value.bool true] T)).alloc (Obj.cells #[Value.pointer (some ⟨w0.heap.size, 0, none⟩)] T')) w0.heap.size (w0.heap.size + 1) :=
  ⟨(play_new w0 T).mono ((Below.refl _ _).alloc (Nat.le_refl _) _), by go_cell, by simp⟩
theorem below_two (w0 : World) (T T' : TypeId) : Below w0.heap.size w0 ((w0.alloc (Obj.cells #[Value.bool true] T)).alloc (Obj.cells #[Value.pointer (some ⟨w0.heap.size, 0, none⟩)] T')) :=
  ((Below.refl _ _).alloc (Nat.le_refl _) _).alloc (by simp) _
end Go.Proofs.YtbadibbdoljjhaaGreatDoor

