import Derived.Test.YtbadibbdoljjhaaGreatDoorCut35

set_option linter.unusedVariables false
/-
  The words of the statements across the layers: playInts, playRats.
-/
namespace Go.Proofs.YtbadibbdoljjhaaGreatDoor
open Go Go.Proofs Go.RowKit

theorem modify_self {α : Type} (xs : Array α) (i : Nat) (f : α → α) (h : ∀ x, xs[i]? = some x → f x = x) : xs.modify i f = xs := by
  apply Array.ext
  · simp
  · intro j h1 h2
    rw [Array.getElem_modify]
    split
    · next e => subst e; exact h _ (Array.getElem?_eq_some_iff.2 ⟨h2, rfl⟩)
    · rfl
theorem setIf_self {α : Type} (c : Array α) (i : Nat) (v : α) (h : c[i]? = some v) : c.setIfInBounds i v = c := by
  apply Array.ext
  · simp
  · intro j h1 h2
    rw [Array.getElem_setIfInBounds]
    split
    · next e => subst e; exact (Array.getElem?_eq_some_iff.1 h).2.symm
    · rfl
theorem setCell_self (w : World) (a : Addr) (v : Value) (h : w.cell? a = some v) : w.setCell a v = w := by
  have k : ∀ H, H = w.heap → ({ w with heap := H } : World) = w := by rintro _ rfl; rfl
  unfold World.setCell
  refine k _ (modify_self _ _ _ (fun x hx => ?_))
  unfold World.cell? at h
  rw [hx] at h
  cases x with
  | cells c elem fr =>
    dsimp only at h ⊢
    split at h
    · cases h
    · next hs => rw [if_neg hs, setIf_self c a.off v h]
  | _ => rfl

/-- The box of an accountant for whom all went well. -/
structure PlayAt (W : World) (b : Nat) : Prop where
  cell : W.cell? ⟨b, 0, none⟩ = some (.bool true)
  fr : W.frozen? ⟨b, 0, none⟩ = false
  lt : b < W.heap.size
theorem PlayAt.mono {W W' : World} {b : Nat} (h : PlayAt W b) (g : Below W.heap.size W W') : PlayAt W' b :=
  ⟨(g.cell (p := ⟨b, 0, none⟩) h.lt).trans h.cell, (g.frozen (p := ⟨b, 0, none⟩) h.lt).trans h.fr, Nat.lt_of_lt_of_le h.lt g.size⟩
theorem play_new (W : World) (T : TypeId) : PlayAt (W.alloc (Obj.cells #[.bool true] T)) W.heap.size := ⟨by go_cell, by go_cell, by simp⟩

set_option maxHeartbeats 1000000 in
theorem playI_of (s : ByteArray) (b : Nat) (w : World) (h : PlayAt w b) :
    Calls Tryz.prog 63 #[(.pointer (some ⟨b, 0, none⟩)), .string s, .int .i64 0] w fun e w' => e = .returned (.string s) ∧ w' = w := by
  have c0 := h.cell; have f0 := h.fr; have l0 := h.lt
  have hs := setCell_self w ⟨b, 0, none⟩ (.bool true) c0
  have HS := Lib.hid hs; clear hs h
  go_enter Tryz.func63, Tryz.ntmps63
  go_wp2
  refine bodyPost_ret (v := .string s) (by simp [results, Tryz.results63, go_sem]) rfl ?_
  exact ⟨rfl, HS.out⟩

set_option maxHeartbeats 1000000 in
theorem playR_of (s : ByteArray) (b : Nat) (w : World) (h : PlayAt w b) :
    Calls Tryz.prog 127 #[(.pointer (some ⟨b, 0, none⟩)), .string s, .int .i64 0] w fun e w' => e = .returned (.string s) ∧ w' = w := by
  have c0 := h.cell; have f0 := h.fr; have l0 := h.lt
  have hs := setCell_self w ⟨b, 0, none⟩ (.bool true) c0
  have HS := Lib.hid hs; clear hs h
  go_enter Tryz.func127, Tryz.ntmps127
  go_wp2
  refine bodyPost_ret (v := .string s) (by simp [results, Tryz.results127, go_sem]) rfl ?_
  exact ⟨rfl, HS.out⟩

set_option maxHeartbeats 1000000 in
theorem playI_add (s t r : ByteArray) (b : Nat) (w : World) (h : PlayAt w b)
    (C1 : ∀ W : World, Below w.heap.size w W → Calls Tryz.prog 78 #[.string s, .string t] W (Bret (.tuple #[.string r, .int .i64 0]) W)) :
    Calls Tryz.prog 60 #[(.pointer (some ⟨b, 0, none⟩)), .string s, .string t] w (Bret (.string r) w) := by
  have C2 : ∀ W : World, Below w.heap.size w W → Calls Tryz.prog 63 #[(.pointer (some ⟨b, 0, none⟩)), .string r, .int .i64 0] W fun e w' => e = .returned (.string r) ∧ w' = W := fun W hW => playI_of r b W (h.mono hW)
  have K1 := Lib.hid C1; have K2 := Lib.hid C2; clear C1 C2 h
  go_enter Tryz.func60, Tryz.ntmps60
  go_wp2_with (go_at_call 78; refine (K1.out _ (Below.refl _ _)).mono ?_; rintro e w1 ⟨rfl, hb1⟩; refine Hid.out ?_)
  have HB := Lib.hid hb1; clear hb1
  refine Lib.hid ?_
  go_wp2_with (go_at_call 63; refine (K2.out _ HB.out).mono ?_; rintro e w2 ⟨rfl, h⟩; subst h; refine Hid.out ?_)
  refine Lib.hid ?_
  go_wp2
  refine bodyPost_ret (v := .string r) (by simp [results, Tryz.results60, go_sem]) rfl ?_
  exact ⟨rfl, HB.out⟩

set_option maxHeartbeats 1000000 in
theorem playI_sub (s t r : ByteArray) (b : Nat) (w : World) (h : PlayAt w b)
    (C1 : ∀ W : World, Below w.heap.size w W → Calls Tryz.prog 53 #[.string s, .string t] W (Bret (.tuple #[.string r, .int .i64 0]) W)) :
    Calls Tryz.prog 61 #[(.pointer (some ⟨b, 0, none⟩)), .string s, .string t] w (Bret (.string r) w) := by
  have C2 : ∀ W : World, Below w.heap.size w W → Calls Tryz.prog 63 #[(.pointer (some ⟨b, 0, none⟩)), .string r, .int .i64 0] W fun e w' => e = .returned (.string r) ∧ w' = W := fun W hW => playI_of r b W (h.mono hW)
  have K1 := Lib.hid C1; have K2 := Lib.hid C2; clear C1 C2 h
  go_enter Tryz.func61, Tryz.ntmps61
  go_wp2_with (go_at_call 53; refine (K1.out _ (Below.refl _ _)).mono ?_; rintro e w1 ⟨rfl, hb1⟩; refine Hid.out ?_)
  have HB := Lib.hid hb1; clear hb1
  refine Lib.hid ?_
  go_wp2_with (go_at_call 63; refine (K2.out _ HB.out).mono ?_; rintro e w2 ⟨rfl, h⟩; subst h; refine Hid.out ?_)
  refine Lib.hid ?_
  go_wp2
  refine bodyPost_ret (v := .string r) (by simp [results, Tryz.results61, go_sem]) rfl ?_
  exact ⟨rfl, HB.out⟩

set_option maxHeartbeats 1000000 in
theorem playI_mul (s t r : ByteArray) (b : Nat) (w : World) (h : PlayAt w b)
    (C1 : ∀ W : World, Below w.heap.size w W → Calls Tryz.prog 57 #[.string s, .string t] W (Bret (.tuple #[.string r, .int .i64 0]) W)) :
    Calls Tryz.prog 62 #[(.pointer (some ⟨b, 0, none⟩)), .string s, .string t] w (Bret (.string r) w) := by
  have C2 : ∀ W : World, Below w.heap.size w W → Calls Tryz.prog 63 #[(.pointer (some ⟨b, 0, none⟩)), .string r, .int .i64 0] W fun e w' => e = .returned (.string r) ∧ w' = W := fun W hW => playI_of r b W (h.mono hW)
  have K1 := Lib.hid C1; have K2 := Lib.hid C2; clear C1 C2 h
  go_enter Tryz.func62, Tryz.ntmps62
  go_wp2_with (go_at_call 57; refine (K1.out _ (Below.refl _ _)).mono ?_; rintro e w1 ⟨rfl, hb1⟩; refine Hid.out ?_)
  have HB := Lib.hid hb1; clear hb1
  refine Lib.hid ?_
  go_wp2_with (go_at_call 63; refine (K2.out _ HB.out).mono ?_; rintro e w2 ⟨rfl, h⟩; subst h; refine Hid.out ?_)
  refine Lib.hid ?_
  go_wp2
  refine bodyPost_ret (v := .string r) (by simp [results, Tryz.results62, go_sem]) rfl ?_
  exact ⟨rfl, HB.out⟩

set_option maxHeartbeats 1000000 in
theorem playR_add (s t r : ByteArray) (b : Nat) (w : World) (h : PlayAt w b)
    (C1 : ∀ W : World, Below w.heap.size w W → Calls Tryz.prog 43 #[.string s, .string t] W (Bret (.tuple #[.string r, .int .i64 0]) W)) :
    Calls Tryz.prog 72 #[(.pointer (some ⟨b, 0, none⟩)), .string s, .string t] w (Bret (.string r) w) := by
  have C2 : ∀ W : World, Below w.heap.size w W → Calls Tryz.prog 127 #[(.pointer (some ⟨b, 0, none⟩)), .string r, .int .i64 0] W fun e w' => e = .returned (.string r) ∧ w' = W := fun W hW => playR_of r b W (h.mono hW)
  have K1 := Lib.hid C1; have K2 := Lib.hid C2; clear C1 C2 h
  go_enter Tryz.func72, Tryz.ntmps72
  go_wp2_with (go_at_call 43; refine (K1.out _ (Below.refl _ _)).mono ?_; rintro e w1 ⟨rfl, hb1⟩; refine Hid.out ?_)
  have HB := Lib.hid hb1; clear hb1
  refine Lib.hid ?_
  go_wp2_with (go_at_call 127; refine (K2.out _ HB.out).mono ?_; rintro e w2 ⟨rfl, h⟩; subst h; refine Hid.out ?_)
  refine Lib.hid ?_
  go_wp2
  refine bodyPost_ret (v := .string r) (by simp [results, Tryz.results72, go_sem]) rfl ?_
  exact ⟨rfl, HB.out⟩

set_option maxHeartbeats 1000000 in
theorem playR_sub (s t r : ByteArray) (b : Nat) (w : World) (h : PlayAt w b)
    (C1 : ∀ W : World, Below w.heap.size w W → Calls Tryz.prog 45 #[.string s, .string t] W (Bret (.tuple #[.string r, .int .i64 0]) W)) :
    Calls Tryz.prog 73 #[(.pointer (some ⟨b, 0, none⟩)), .string s, .string t] w (Bret (.string r) w) := by
  have C2 : ∀ W : World, Below w.heap.size w W → Calls Tryz.prog 127 #[(.pointer (some ⟨b, 0, none⟩)), .string r, .int .i64 0] W fun e w' => e = .returned (.string r) ∧ w' = W := fun W hW => playR_of r b W (h.mono hW)
  have K1 := Lib.hid C1; have K2 := Lib.hid C2; clear C1 C2 h
  go_enter Tryz.func73, Tryz.ntmps73
  go_wp2_with (go_at_call 45; refine (K1.out _ (Below.refl _ _)).mono ?_; rintro e w1 ⟨rfl, hb1⟩; refine Hid.out ?_)
  have HB := Lib.hid hb1; clear hb1
  refine Lib.hid ?_
  go_wp2_with (go_at_call 127; refine (K2.out _ HB.out).mono ?_; rintro e w2 ⟨rfl, h⟩; subst h; refine Hid.out ?_)
  refine Lib.hid ?_
  go_wp2
  refine bodyPost_ret (v := .string r) (by simp [results, Tryz.results73, go_sem]) rfl ?_
  exact ⟨rfl, HB.out⟩

set_option maxHeartbeats 1000000 in
theorem playR_mul (s t r : ByteArray) (b : Nat) (w : World) (h : PlayAt w b)
    (C1 : ∀ W : World, Below w.heap.size w W → Calls Tryz.prog 47 #[.string s, .string t] W (Bret (.tuple #[.string r, .int .i64 0]) W)) :
    Calls Tryz.prog 74 #[(.pointer (some ⟨b, 0, none⟩)), .string s, .string t] w (Bret (.string r) w) := by
  have C2 : ∀ W : World, Below w.heap.size w W → Calls Tryz.prog 127 #[(.pointer (some ⟨b, 0, none⟩)), .string r, .int .i64 0] W fun e w' => e = .returned (.string r) ∧ w' = W := fun W hW => playR_of r b W (h.mono hW)
  have K1 := Lib.hid C1; have K2 := Lib.hid C2; clear C1 C2 h
  go_enter Tryz.func74, Tryz.ntmps74
  go_wp2_with (go_at_call 47; refine (K1.out _ (Below.refl _ _)).mono ?_; rintro e w1 ⟨rfl, hb1⟩; refine Hid.out ?_)
  have HB := Lib.hid hb1; clear hb1
  refine Lib.hid ?_
  go_wp2_with (go_at_call 127; refine (K2.out _ HB.out).mono ?_; rintro e w2 ⟨rfl, h⟩; subst h; refine Hid.out ?_)
  refine Lib.hid ?_
  go_wp2
  refine bodyPost_ret (v := .string r) (by simp [results, Tryz.results74, go_sem]) rfl ?_
  exact ⟨rfl, HB.out⟩

set_option maxHeartbeats 1000000 in
theorem playR_div (s t r : ByteArray) (b : Nat) (w : World) (h : PlayAt w b)
    (C1 : ∀ W : World, Below w.heap.size w W → Calls Tryz.prog 49 #[.string s, .string t] W (Bret (.tuple #[.string r, .int .i64 0]) W)) :
    Calls Tryz.prog 75 #[(.pointer (some ⟨b, 0, none⟩)), .string s, .string t] w (Bret (.string r) w) := by
  have C2 : ∀ W : World, Below w.heap.size w W → Calls Tryz.prog 127 #[(.pointer (some ⟨b, 0, none⟩)), .string r, .int .i64 0] W fun e w' => e = .returned (.string r) ∧ w' = W := fun W hW => playR_of r b W (h.mono hW)
  have K1 := Lib.hid C1; have K2 := Lib.hid C2; clear C1 C2 h
  go_enter Tryz.func75, Tryz.ntmps75
  go_wp2_with (go_at_call 49; refine (K1.out _ (Below.refl _ _)).mono ?_; rintro e w1 ⟨rfl, hb1⟩; refine Hid.out ?_)
  have HB := Lib.hid hb1; clear hb1
  refine Lib.hid ?_
  go_wp2_with (go_at_call 127; refine (K2.out _ HB.out).mono ?_; rintro e w2 ⟨rfl, h⟩; subst h; refine Hid.out ?_)
  refine Lib.hid ?_
  go_wp2
  refine bodyPost_ret (v := .string r) (by simp [results, Tryz.results75, go_sem]) rfl ?_
  exact ⟨rfl, HB.out⟩

set_option maxHeartbeats 1000000 in
theorem playR_order (s t : ByteArray) (c : Int) (b : Nat) (w : World) (h : PlayAt w b)
    (C1 : ∀ W : World, Below w.heap.size w W → Calls Tryz.prog 41 #[.string s, .string t] W (Bret (.tuple #[.int .i64 c, .int .i64 0]) W)) :
    Calls Tryz.prog 76 #[(.pointer (some ⟨b, 0, none⟩)), .string s, .string t] w (Bret (.int .i64 c) w) := by
  have K1 := Lib.hid C1; have KP := Lib.hid h; clear C1 h
  go_enter Tryz.func76, Tryz.ntmps76
  go_wp2_with (go_at_call 41; refine (K1.out _ (Below.refl _ _)).mono ?_; rintro e w1 ⟨rfl, hb1⟩; refine Hid.out ?_)
  have P1 := KP.out.mono hb1
  have c0 := P1.cell; have f0 := P1.fr; have l0 := P1.lt
  have HB := Lib.hid hb1; have HS := Lib.hid (setCell_self w1 ⟨b, 0, none⟩ (.bool true) c0); clear hb1 P1
  refine Lib.hid ?_
  go_wp2
  refine bodyPost_ret (v := .int .i64 c) (by simp [results, Tryz.results76, go_sem]) rfl ?_
  exact ⟨rfl, by rw [HS.out]; exact HB.out⟩

theorem whole_three (s t u : ByteArray) (w : World) (hs : s.size ≤ 9223372036854775807) (ht : t.size ≤ 9223372036854775807) (hu : u.size ≤ 9223372036854775807) :
    Calls Tryz.prog 58 #[.slice (some ⟨w.heap.size, 0, none⟩) 3 3] (w.alloc (Obj.cells #[.string s, .string t, .string u] 22)) (Bret (.bool (wholeB s && (wholeB t && wholeB u))) (w.alloc (Obj.cells #[.string s, .string t, .string u] 22))) := by
  have := playWhole_any [s, t, u] w.heap.size 3 (w.alloc (Obj.cells #[.string s, .string t, .string u] 22)) (fun j h => by
    match j, h with
    | 0, _ => show _ = some (Value.string s); go_cell
    | 1, _ => show _ = some (Value.string t); go_cell
    | 2, _ => show _ = some (Value.string u); go_cell) (by simp) (fun x hx => by simp at hx; rcases hx with rfl | rfl | rfl <;> assumption) (by simp)
  rwa [all_three] at this
theorem whole_one (s : ByteArray) (w : World) (hs : s.size ≤ 9223372036854775807) :
    Calls Tryz.prog 58 #[.slice (some ⟨w.heap.size, 0, none⟩) 1 1] (w.alloc (Obj.cells #[.string s] 22)) (Bret (.bool (wholeB s)) (w.alloc (Obj.cells #[.string s] 22))) := by
  have := playWhole_any [s] w.heap.size 1 (w.alloc (Obj.cells #[.string s] 22)) (fun j h => by
    match j, h with
    | 0, _ => show _ = some (Value.string s); go_cell) (by simp) (fun x hx => by simp at hx; subst hx; exact hs) (by simp)
  rwa [show [s].all wholeB = wholeB s from by simp] at this
theorem broken_one (s : ByteArray) (w : World) (hs : s.size ≤ 9223372036854775807) :
    Calls Tryz.prog 71 #[.slice (some ⟨w.heap.size, 0, none⟩) 1 1] (w.alloc (Obj.cells #[.string s] 35)) (Bret (.bool (brokenB s)) (w.alloc (Obj.cells #[.string s] 35))) := by
  have := playBroken_any [s] w.heap.size 1 (w.alloc (Obj.cells #[.string s] 35)) (fun j h => by
    match j, h with
    | 0, _ => show _ = some (Value.string s); go_cell) (by simp) (fun x hx => by simp at hx; subst hx; exact hs) (by simp)
  rwa [show [s].all brokenB = brokenB s from by simp] at this
theorem broken_three (s t u : ByteArray) (w : World) (hs : s.size ≤ 9223372036854775807) (ht : t.size ≤ 9223372036854775807) (hu : u.size ≤ 9223372036854775807) :
    Calls Tryz.prog 71 #[.slice (some ⟨w.heap.size, 0, none⟩) 3 3] (w.alloc (Obj.cells #[.string s, .string t, .string u] 35)) (Bret (.bool (brokenB s && (brokenB t && brokenB u))) (w.alloc (Obj.cells #[.string s, .string t, .string u] 35))) := by
  have := playBroken_any [s, t, u] w.heap.size 3 (w.alloc (Obj.cells #[.string s, .string t, .string u] 35)) (fun j h => by
    match j, h with
    | 0, _ => show _ = some (Value.string s); go_cell
    | 1, _ => show _ = some (Value.string t); go_cell
    | 2, _ => show _ = some (Value.string u); go_cell) (by simp) (fun x hx => by simp at hx; rcases hx with rfl | rfl | rfl <;> assumption) (by simp)
  rwa [all_three] at this
theorem str_sz {s : ByteArray} {z : Int} {k : Nat} (h : Str s z) (hk : s.size ≤ k) : Sz k z := by
  have h2 := txt_len h.text
  exact dec_pow (by split at h2 <;> omega)
theorem whole_str {s : ByteArray} (h : wholeB s = true) : Str s (valZ (bytes s)) ∧ Sz 400 (valZ (bytes s)) := by
  unfold wholeB at h
  rw [Bool.and_eq_true, decide_eq_true_eq, decide_eq_true_eq] at h
  exact ⟨str_of_err h.2, str_sz (str_of_err h.2) h.1⟩
end Go.Proofs.YtbadibbdoljjhaaGreatDoor

/-
  TopIntegersRing: the walk.
-/
namespace Go.Proofs.YtbadibbdoljjhaaGreatDoor
open Go Go.Proofs Go.RowKit

theorem pIadd {s t : ByteArray} {x y : Int} {i j : Nat} (hs : Str s x) (ht : Str t y) (hx : Sz i x) (hy : Sz j y) (w : World) (htab : Lib.TabIs Tryz.prog w "internal/strconv.uint64pow10" .u64 Lib.pow10Tab) (hk : i + j + 1 ≤ 4096) (h0 : 0 < i + j + 1) (b : Nat) (W : World) (hP : PlayAt W b) (hW : Below w.heap.size w W) :
    Calls Tryz.prog 60 #[(.pointer (some ⟨b, 0, none⟩)), .string s, .string t] W (Bret (.string (str (Lib.itoa (x + y)))) W) := by
  have hT := Lib.tabBelow_of_tabIs htab
  refine playI_add s t _ b W hP (fun W' hW' => ?_)
  have := addZ s t x y W' hs ht (hT.on (Below.chain hW hW')).here
  rwa [resV_fits (Sz.fits ((hx.mono (by omega : i ≤ i + j)).add (hy.mono (by omega))) h0 hk)] at this
theorem pIsub {s t : ByteArray} {x y : Int} {i j : Nat} (hs : Str s x) (ht : Str t y) (hx : Sz i x) (hy : Sz j y) (w : World) (htab : Lib.TabIs Tryz.prog w "internal/strconv.uint64pow10" .u64 Lib.pow10Tab) (hk : i + j + 1 ≤ 4096) (h0 : 0 < i + j + 1) (b : Nat) (W : World) (hP : PlayAt W b) (hW : Below w.heap.size w W) :
    Calls Tryz.prog 61 #[(.pointer (some ⟨b, 0, none⟩)), .string s, .string t] W (Bret (.string (str (Lib.itoa (x - y)))) W) := by
  have hT := Lib.tabBelow_of_tabIs htab
  refine playI_sub s t _ b W hP (fun W' hW' => ?_)
  have := subZ s t x y W' hs ht (hT.on (Below.chain hW hW')).here
  rwa [resV_fits (Sz.fits (by rw [Int.sub_eq_add_neg]; exact (hx.mono (by omega : i ≤ i + j)).add (hy.neg.mono (by omega))) h0 hk)] at this
theorem pImul {s t : ByteArray} {x y : Int} {i j : Nat} (hs : Str s x) (ht : Str t y) (hx : Sz i x) (hy : Sz j y) (w : World) (htab : Lib.TabIs Tryz.prog w "internal/strconv.uint64pow10" .u64 Lib.pow10Tab) (hk : i + j ≤ 4096) (h0 : 0 < i + j) (b : Nat) (W : World) (hP : PlayAt W b) (hW : Below w.heap.size w W) :
    Calls Tryz.prog 62 #[(.pointer (some ⟨b, 0, none⟩)), .string s, .string t] W (Bret (.string (str (Lib.itoa (x * y)))) W) := by
  have hT := Lib.tabBelow_of_tabIs htab
  refine playI_mul s t _ b W hP (fun W' hW' => ?_)
  have := mulZ s t x y W' hs ht (hT.on (Below.chain hW hW')).here
  rwa [resV_fits (Sz.fits (hx.mul hy) h0 hk)] at this
theorem Sz.plus {i j : Nat} {x y : Int} (hx : Sz i x) (hy : Sz j y) : Sz (i + j + 1) (x + y) := (hx.mono (by omega : i ≤ i + j)).add (hy.mono (by omega))
theorem Sz.minus {i j : Nat} {x y : Int} (hx : Sz i x) (hy : Sz j y) : Sz (i + j + 1) (x - y) := by rw [Int.sub_eq_add_neg]; exact hx.plus hy.neg
theorem sz_lit {s : ByteArray} {z : Int} (_h : Str s z) (hz : z.natAbs < 10) : Sz 1 z := hz

set_option maxRecDepth 20000 in
set_option maxHeartbeats 16000000 in
theorem tring_main (s t u : ByteArray) (x y z : Int) (w : World) (hs : Str s x) (ht : Str t y) (hu : Str u z) (hx : Sz 400 x) (hy : Sz 400 y) (hz : Sz 400 z)
    (C0 : Calls Tryz.prog 58 #[.slice (some ⟨w.heap.size, 0, none⟩) 3 3] (w.alloc (Obj.cells #[.string s, .string t, .string u] 22)) (Bret (.bool true) (w.alloc (Obj.cells #[.string s, .string t, .string u] 22))))
    (htab : Lib.TabIs Tryz.prog w "internal/strconv.uint64pow10" .u64 Lib.pow10Tab) :
    Calls Tryz.prog 12 #[.string s, .string t, .string u] w (Bret (.bool true) w) := by
  have hT := Lib.tabBelow_of_tabIs htab
  have z0 : Sz 1 0 := sz_lit str_zero (by decide)
  have z1 : Sz 1 1 := sz_lit s1 (by decide)
  have zxy := hx.plus hy; have zyz := hy.plus hz; have zmin := hx.minus hy
  have q1 := zxy.str (by decide) (by decide); have q2 := zyz.str (by decide) (by decide); have q3 := zmin.str (by decide) (by decide)
  have m1 := (hx.mul hy).str (by decide) (by decide); have m2 := (hy.mul hz).str (by decide) (by decide); have m3 := (hx.mul hz).str (by decide) (by decide)
  have C1 : ∀ (b : Nat) (W : World), PlayAt W b → Below w.heap.size w W → Calls Tryz.prog 60 #[(.pointer (some ⟨b, 0, none⟩)), .string s, .string t] W (Bret (.string (str (Lib.itoa (x + y)))) W) := fun b W hP hW => by
    have := pIadd hs ht hx hy w htab (by decide) (by decide) b W hP hW; exact this
  have C2 : ∀ (b : Nat) (W : World), PlayAt W b → Below w.heap.size w W → Calls Tryz.prog 60 #[(.pointer (some ⟨b, 0, none⟩)), .string (str (Lib.itoa (x + y))), .string u] W (Bret (.string (str (Lib.itoa (x + y + z)))) W) := fun b W hP hW => by
    have := pIadd q1 hu zxy hz w htab (by decide) (by decide) b W hP hW; exact this
  have C3 : ∀ (b : Nat) (W : World), PlayAt W b → Below w.heap.size w W → Calls Tryz.prog 60 #[(.pointer (some ⟨b, 0, none⟩)), .string t, .string u] W (Bret (.string (str (Lib.itoa (y + z)))) W) := fun b W hP hW => by
    have := pIadd ht hu hy hz w htab (by decide) (by decide) b W hP hW; exact this
  have C4 : ∀ (b : Nat) (W : World), PlayAt W b → Below w.heap.size w W → Calls Tryz.prog 60 #[(.pointer (some ⟨b, 0, none⟩)), .string s, .string (str (Lib.itoa (y + z)))] W (Bret (.string (str (Lib.itoa (x + y + z)))) W) := fun b W hP hW => by
    have := pIadd hs q2 hx zyz w htab (by decide) (by decide) b W hP hW; rwa [← Int.add_assoc] at this
  have C5 : ∀ (b : Nat) (W : World), PlayAt W b → Below w.heap.size w W → Calls Tryz.prog 60 #[(.pointer (some ⟨b, 0, none⟩)), .string s, .string t] W (Bret (.string (str (Lib.itoa (x + y)))) W) := fun b W hP hW => by
    have := pIadd hs ht hx hy w htab (by decide) (by decide) b W hP hW; exact this
  have C6 : ∀ (b : Nat) (W : World), PlayAt W b → Below w.heap.size w W → Calls Tryz.prog 60 #[(.pointer (some ⟨b, 0, none⟩)), .string t, .string s] W (Bret (.string (str (Lib.itoa (x + y)))) W) := fun b W hP hW => by
    have := pIadd ht hs hy hx w htab (by decide) (by decide) b W hP hW; rwa [Int.add_comm y x] at this
  have C7 : ∀ (b : Nat) (W : World), PlayAt W b → Below w.heap.size w W → Calls Tryz.prog 60 #[(.pointer (some ⟨b, 0, none⟩)), .string s, .string ⟨#[48]⟩] W (Bret (.string s) W) := fun b W hP hW => by
    have := pIadd hs str_zero hx z0 w htab (by decide) (by decide) b W hP hW; rwa [Int.add_zero, lit_str hs] at this
  have C8 : ∀ (b : Nat) (W : World), PlayAt W b → Below w.heap.size w W → Calls Tryz.prog 61 #[(.pointer (some ⟨b, 0, none⟩)), .string s, .string s] W (Bret (.string ⟨#[48]⟩) W) := fun b W hP hW => by
    have := pIsub hs hs hx hx w htab (by decide) (by decide) b W hP hW; rwa [Int.sub_self, lit_str str_zero] at this
  have C9 : ∀ (b : Nat) (W : World), PlayAt W b → Below w.heap.size w W → Calls Tryz.prog 61 #[(.pointer (some ⟨b, 0, none⟩)), .string s, .string t] W (Bret (.string (str (Lib.itoa (x - y)))) W) := fun b W hP hW => by
    have := pIsub hs ht hx hy w htab (by decide) (by decide) b W hP hW; exact this
  have C10 : ∀ (b : Nat) (W : World), PlayAt W b → Below w.heap.size w W → Calls Tryz.prog 60 #[(.pointer (some ⟨b, 0, none⟩)), .string (str (Lib.itoa (x - y))), .string t] W (Bret (.string s) W) := fun b W hP hW => by
    have := pIadd q3 ht zmin hy w htab (by decide) (by decide) b W hP hW; rwa [Int.sub_add_cancel, lit_str hs] at this
  have C11 : ∀ (b : Nat) (W : World), PlayAt W b → Below w.heap.size w W → Calls Tryz.prog 62 #[(.pointer (some ⟨b, 0, none⟩)), .string s, .string t] W (Bret (.string (str (Lib.itoa (x * y)))) W) := fun b W hP hW => by
    have := pImul hs ht hx hy w htab (by decide) (by decide) b W hP hW; exact this
  have C12 : ∀ (b : Nat) (W : World), PlayAt W b → Below w.heap.size w W → Calls Tryz.prog 62 #[(.pointer (some ⟨b, 0, none⟩)), .string (str (Lib.itoa (x * y))), .string u] W (Bret (.string (str (Lib.itoa (x * y * z)))) W) := fun b W hP hW => by
    have := pImul m1 hu (hx.mul hy) hz w htab (by decide) (by decide) b W hP hW; exact this
  have C13 : ∀ (b : Nat) (W : World), PlayAt W b → Below w.heap.size w W → Calls Tryz.prog 62 #[(.pointer (some ⟨b, 0, none⟩)), .string t, .string u] W (Bret (.string (str (Lib.itoa (y * z)))) W) := fun b W hP hW => by
    have := pImul ht hu hy hz w htab (by decide) (by decide) b W hP hW; exact this
  have C14 : ∀ (b : Nat) (W : World), PlayAt W b → Below w.heap.size w W → Calls Tryz.prog 62 #[(.pointer (some ⟨b, 0, none⟩)), .string s, .string (str (Lib.itoa (y * z)))] W (Bret (.string (str (Lib.itoa (x * y * z)))) W) := fun b W hP hW => by
    have := pImul hs m2 hx (hy.mul hz) w htab (by decide) (by decide) b W hP hW; rwa [← Int.mul_assoc] at this
  have C15 : ∀ (b : Nat) (W : World), PlayAt W b → Below w.heap.size w W → Calls Tryz.prog 62 #[(.pointer (some ⟨b, 0, none⟩)), .string s, .string t] W (Bret (.string (str (Lib.itoa (x * y)))) W) := fun b W hP hW => by
    have := pImul hs ht hx hy w htab (by decide) (by decide) b W hP hW; exact this
  have C16 : ∀ (b : Nat) (W : World), PlayAt W b → Below w.heap.size w W → Calls Tryz.prog 62 #[(.pointer (some ⟨b, 0, none⟩)), .string t, .string s] W (Bret (.string (str (Lib.itoa (x * y)))) W) := fun b W hP hW => by
    have := pImul ht hs hy hx w htab (by decide) (by decide) b W hP hW; rwa [Int.mul_comm y x] at this
  have C17 : ∀ (b : Nat) (W : World), PlayAt W b → Below w.heap.size w W → Calls Tryz.prog 62 #[(.pointer (some ⟨b, 0, none⟩)), .string s, .string ⟨#[49]⟩] W (Bret (.string s) W) := fun b W hP hW => by
    have := pImul hs s1 hx z1 w htab (by decide) (by decide) b W hP hW; rwa [Int.mul_one, lit_str hs] at this
  have C18 : ∀ (b : Nat) (W : World), PlayAt W b → Below w.heap.size w W → Calls Tryz.prog 60 #[(.pointer (some ⟨b, 0, none⟩)), .string t, .string u] W (Bret (.string (str (Lib.itoa (y + z)))) W) := fun b W hP hW => by
    have := pIadd ht hu hy hz w htab (by decide) (by decide) b W hP hW; exact this
  have C19 : ∀ (b : Nat) (W : World), PlayAt W b → Below w.heap.size w W → Calls Tryz.prog 62 #[(.pointer (some ⟨b, 0, none⟩)), .string s, .string (str (Lib.itoa (y + z)))] W (Bret (.string (str (Lib.itoa (x * (y + z))))) W) := fun b W hP hW => by
    have := pImul hs q2 hx zyz w htab (by decide) (by decide) b W hP hW; exact this
  have C20 : ∀ (b : Nat) (W : World), PlayAt W b → Below w.heap.size w W → Calls Tryz.prog 62 #[(.pointer (some ⟨b, 0, none⟩)), .string s, .string t] W (Bret (.string (str (Lib.itoa (x * y)))) W) := fun b W hP hW => by
    have := pImul hs ht hx hy w htab (by decide) (by decide) b W hP hW; exact this
  have C21 : ∀ (b : Nat) (W : World), PlayAt W b → Below w.heap.size w W → Calls Tryz.prog 62 #[(.pointer (some ⟨b, 0, none⟩)), .string s, .string u] W (Bret (.string (str (Lib.itoa (x * z)))) W) := fun b W hP hW => by
    have := pImul hs hu hx hz w htab (by decide) (by decide) b W hP hW; exact this
  have C22 : ∀ (b : Nat) (W : World), PlayAt W b → Below w.heap.size w W → Calls Tryz.prog 60 #[(.pointer (some ⟨b, 0, none⟩)), .string (str (Lib.itoa (x * y))), .string (str (Lib.itoa (x * z)))] W (Bret (.string (str (Lib.itoa (x * (y + z))))) W) := fun b W hP hW => by
    have := pIadd m1 m3 (hx.mul hy) (hx.mul hz) w htab (by decide) (by decide) b W hP hW; rwa [← Int.mul_add] at this
  have C23 := fun W => negZ s x W hs
  have C24 : ∀ (b : Nat) (W : World), PlayAt W b → Calls Tryz.prog 63 #[(.pointer (some ⟨b, 0, none⟩)), .string (str (Lib.itoa (-x))), .int .i64 0] W (fun e w' => e = .returned (.string (str (Lib.itoa (-x)))) ∧ w' = W) := fun b W hP => playI_of _ b W hP
  have C25 : ∀ (b : Nat) (W : World), PlayAt W b → Below w.heap.size w W → Calls Tryz.prog 61 #[(.pointer (some ⟨b, 0, none⟩)), .string ⟨#[48]⟩, .string s] W (Bret (.string (str (Lib.itoa (-x)))) W) := fun b W hP hW => by
    have := pIsub str_zero hs z0 hx w htab (by decide) (by decide) b W hP hW; rwa [Int.zero_sub] at this
  have C26 : ∀ W : World, Below w.heap.size w W → Calls Tryz.prog 59 #[] W (Bret (.bool true) W) := fun W hW => playNumbers_any W (hT.on hW).here
  have B0 : Below w.heap.size w (w.alloc (Obj.cells #[.string s, .string t, .string u] 22)) := (Below.refl _ _).alloc (Nat.le_refl _) _
  generalize str (Lib.itoa (x * (y + z))) = r0 at *
  generalize str (Lib.itoa (x + y + z)) = r1 at *
  generalize str (Lib.itoa (x * y * z)) = r2 at *
  generalize str (Lib.itoa (x + y)) = r3 at *
  generalize str (Lib.itoa (y + z)) = r4 at *
  generalize str (Lib.itoa (x - y)) = r5 at *
  generalize str (Lib.itoa (x * y)) = r6 at *
  generalize str (Lib.itoa (y * z)) = r7 at *
  generalize str (Lib.itoa (x * z)) = r8 at *
  generalize str (Lib.itoa (-x)) = r9 at *
  have K0 := Lib.hid C0; have K1 := Lib.hid C1; have K2 := Lib.hid C2; have K3 := Lib.hid C3; have K4 := Lib.hid C4; have K5 := Lib.hid C5; have K6 := Lib.hid C6; have K7 := Lib.hid C7; have K8 := Lib.hid C8; have K9 := Lib.hid C9; have K10 := Lib.hid C10; have K11 := Lib.hid C11; have K12 := Lib.hid C12; have K13 := Lib.hid C13; have K14 := Lib.hid C14; have K15 := Lib.hid C15; have K16 := Lib.hid C16; have K17 := Lib.hid C17; have K18 := Lib.hid C18; have K19 := Lib.hid C19; have K20 := Lib.hid C20; have K21 := Lib.hid C21; have K22 := Lib.hid C22; have K23 := Lib.hid C23; have K24 := Lib.hid C24; have K25 := Lib.hid C25; have K26 := Lib.hid C26; have HB0 := Lib.hid B0
  clear C0 C1 C2 C3 C4 C5 C6 C7 C8 C9 C10 C11 C12 C13 C14 C15 C16 C17 C18 C19 C20 C21 C22 C23 C24 C25 C26 B0 hs ht hu hx hy hz hT htab z0 z1 zxy zyz zmin q1 q2 q3 m1 m2 m3
  go_enter Tryz.func12, Tryz.ntmps12
  go_wp2_with (go_at_call 58; refine K0.out.mono ?_; rintro e w0 ⟨rfl, hb0⟩; refine Hid.out ?_)
  have hB9 := Below.chain HB0.out hb0; clear hb0
  have P0 := play_new w0 69
  have A0 : Below w0.heap.size w0 (w0.alloc (Obj.cells #[.bool true] 69)) := (Below.refl _ _).alloc (Nat.le_refl _) _
  have hB8 := Below.chain hB9 A0; clear hB9 A0
  have HP := Lib.hid P0; have H8 := Lib.hid hB8; clear P0 hB8
  refine Lib.hid ?_
  go_wp2_with fail
  have P0 := HP.out; have hB8 := H8.out; clear HP H8
  generalize w0.alloc (Obj.cells #[.bool true] 69) = W1 at *
  generalize w0.heap.size = b at *
  have K : ∀ W : World, Below W1.heap.size W1 W → PlayAt W b ∧ Below w.heap.size w W := fun W hW => ⟨P0.mono hW, Below.chain hB8 hW⟩
  have KK := Lib.hid K; clear K P0 hB8
  have hB0 := Below.refl W1.heap.size W1
  go_wp2_with (go_at_call 60; refine (K1.out _ _ (KK.out _ hB0).1 (KK.out _ hB0).2).mono ?_; rintro e w1 ⟨rfl, hb1⟩; refine Hid.out ?_)
  have hB1 := Below.chain hB0 hb1; clear hb1 hB0
  refine Lib.hid ?_
  go_wp2_with (go_at_call 60; refine (K2.out _ _ (KK.out _ hB1).1 (KK.out _ hB1).2).mono ?_; rintro e w2 ⟨rfl, hb2⟩; refine Hid.out ?_)
  have hB2 := Below.chain hB1 hb2; clear hb2 hB1
  refine Lib.hid ?_
  go_wp2_with (go_at_call 60; refine (K3.out _ _ (KK.out _ hB2).1 (KK.out _ hB2).2).mono ?_; rintro e w3 ⟨rfl, hb3⟩; refine Hid.out ?_)
  have hB3 := Below.chain hB2 hb3; clear hb3 hB2
  refine Lib.hid ?_
  go_wp2_with (go_at_call 60; refine (K4.out _ _ (KK.out _ hB3).1 (KK.out _ hB3).2).mono ?_; rintro e w4 ⟨rfl, hb4⟩; refine Hid.out ?_)
  have hB4 := Below.chain hB3 hb4; clear hb4 hB3
  refine Lib.hid ?_
  go_wp2_with (go_at_call 60; refine (K5.out _ _ (KK.out _ hB4).1 (KK.out _ hB4).2).mono ?_; rintro e w5 ⟨rfl, hb5⟩; refine Hid.out ?_)
  have hB5 := Below.chain hB4 hb5; clear hb5 hB4
  refine Lib.hid ?_
  go_wp2_with (go_at_call 60; refine (K6.out _ _ (KK.out _ hB5).1 (KK.out _ hB5).2).mono ?_; rintro e w6 ⟨rfl, hb6⟩; refine Hid.out ?_)
  have hB6 := Below.chain hB5 hb6; clear hb6 hB5
  refine Lib.hid ?_
  go_wp2_with (go_at_call 60; refine (K7.out _ _ (KK.out _ hB6).1 (KK.out _ hB6).2).mono ?_; rintro e w7 ⟨rfl, hb7⟩; refine Hid.out ?_)
  have hB7 := Below.chain hB6 hb7; clear hb7 hB6
  refine Lib.hid ?_
  go_wp2_with (go_at_call 61; refine (K8.out _ _ (KK.out _ hB7).1 (KK.out _ hB7).2).mono ?_; rintro e w8 ⟨rfl, hb8⟩; refine Hid.out ?_)
  have hB8 := Below.chain hB7 hb8; clear hb8 hB7
  refine Lib.hid ?_
  go_wp2_with (go_at_call 61; refine (K9.out _ _ (KK.out _ hB8).1 (KK.out _ hB8).2).mono ?_; rintro e w9 ⟨rfl, hb9⟩; refine Hid.out ?_)
  have hB9 := Below.chain hB8 hb9; clear hb9 hB8
  refine Lib.hid ?_
  go_wp2_with (go_at_call 60; refine (K10.out _ _ (KK.out _ hB9).1 (KK.out _ hB9).2).mono ?_; rintro e w10 ⟨rfl, hb10⟩; refine Hid.out ?_)
  have hB10 := Below.chain hB9 hb10; clear hb10 hB9
  refine Lib.hid ?_
  go_wp2_with (go_at_call 62; refine (K11.out _ _ (KK.out _ hB10).1 (KK.out _ hB10).2).mono ?_; rintro e w11 ⟨rfl, hb11⟩; refine Hid.out ?_)
  have hB11 := Below.chain hB10 hb11; clear hb11 hB10
  refine Lib.hid ?_
  go_wp2_with (go_at_call 62; refine (K12.out _ _ (KK.out _ hB11).1 (KK.out _ hB11).2).mono ?_; rintro e w12 ⟨rfl, hb12⟩; refine Hid.out ?_)
  have hB12 := Below.chain hB11 hb12; clear hb12 hB11
  refine Lib.hid ?_
  go_wp2_with (go_at_call 62; refine (K13.out _ _ (KK.out _ hB12).1 (KK.out _ hB12).2).mono ?_; rintro e w13 ⟨rfl, hb13⟩; refine Hid.out ?_)
  have hB13 := Below.chain hB12 hb13; clear hb13 hB12
  refine Lib.hid ?_
  go_wp2_with (go_at_call 62; refine (K14.out _ _ (KK.out _ hB13).1 (KK.out _ hB13).2).mono ?_; rintro e w14 ⟨rfl, hb14⟩; refine Hid.out ?_)
  have hB14 := Below.chain hB13 hb14; clear hb14 hB13
  refine Lib.hid ?_
  go_wp2_with (go_at_call 62; refine (K15.out _ _ (KK.out _ hB14).1 (KK.out _ hB14).2).mono ?_; rintro e w15 ⟨rfl, hb15⟩; refine Hid.out ?_)
  have hB15 := Below.chain hB14 hb15; clear hb15 hB14
  refine Lib.hid ?_
  go_wp2_with (go_at_call 62; refine (K16.out _ _ (KK.out _ hB15).1 (KK.out _ hB15).2).mono ?_; rintro e w16 ⟨rfl, hb16⟩; refine Hid.out ?_)
  have hB16 := Below.chain hB15 hb16; clear hb16 hB15
  refine Lib.hid ?_
  go_wp2_with (go_at_call 62; refine (K17.out _ _ (KK.out _ hB16).1 (KK.out _ hB16).2).mono ?_; rintro e w17 ⟨rfl, hb17⟩; refine Hid.out ?_)
  have hB17 := Below.chain hB16 hb17; clear hb17 hB16
  refine Lib.hid ?_
  go_wp2_with (go_at_call 60; refine (K18.out _ _ (KK.out _ hB17).1 (KK.out _ hB17).2).mono ?_; rintro e w18 ⟨rfl, hb18⟩; refine Hid.out ?_)
  have hB18 := Below.chain hB17 hb18; clear hb18 hB17
  refine Lib.hid ?_
  go_wp2_with (go_at_call 62; refine (K19.out _ _ (KK.out _ hB18).1 (KK.out _ hB18).2).mono ?_; rintro e w19 ⟨rfl, hb19⟩; refine Hid.out ?_)
  have hB19 := Below.chain hB18 hb19; clear hb19 hB18
  refine Lib.hid ?_
  go_wp2_with (go_at_call 62; refine (K20.out _ _ (KK.out _ hB19).1 (KK.out _ hB19).2).mono ?_; rintro e w20 ⟨rfl, hb20⟩; refine Hid.out ?_)
  have hB20 := Below.chain hB19 hb20; clear hb20 hB19
  refine Lib.hid ?_
  go_wp2_with (go_at_call 62; refine (K21.out _ _ (KK.out _ hB20).1 (KK.out _ hB20).2).mono ?_; rintro e w21 ⟨rfl, hb21⟩; refine Hid.out ?_)
  have hB21 := Below.chain hB20 hb21; clear hb21 hB20
  refine Lib.hid ?_
  go_wp2_with (go_at_call 60; refine (K22.out _ _ (KK.out _ hB21).1 (KK.out _ hB21).2).mono ?_; rintro e w22 ⟨rfl, hb22⟩; refine Hid.out ?_)
  have hB22 := Below.chain hB21 hb22; clear hb22 hB21
  refine Lib.hid ?_
  go_wp2_with (go_at_call 54; refine (K23.out _).mono ?_; rintro e w23 ⟨rfl, h⟩; subst h; refine Hid.out ?_)
  refine Lib.hid ?_
  go_wp2_with (go_at_call 63; refine (K24.out _ _ (KK.out _ hB22).1).mono ?_; rintro e w24 ⟨rfl, h⟩; subst h; refine Hid.out ?_)
  refine Lib.hid ?_
  go_wp2_with (go_at_call 61; refine (K25.out _ _ (KK.out _ hB22).1 (KK.out _ hB22).2).mono ?_; rintro e w25 ⟨rfl, hb25⟩; refine Hid.out ?_)
  have hB25 := Below.chain hB22 hb25; clear hb25 hB22
  refine Lib.hid ?_
  have PL := (KK.out _ hB25).1
  have c0 := PL.cell; have f0 := PL.fr; have l0 := PL.lt; clear PL
  go_wp2_with (go_at_call 59; refine (K26.out _ (KK.out _ hB25).2).mono ?_; rintro e w27 ⟨rfl, hb27⟩; refine Hid.out ?_)
  have hB27 := Below.chain hB25 hb27; clear hb27 hB25
  refine Lib.hid ?_
  go_wp2
  refine bodyPost_ret (v := .bool true) (by simp [results, Tryz.results12, go_sem]) rfl ?_
  exact ⟨rfl, (KK.out _ hB27).2⟩

set_option maxRecDepth 20000 in
set_option maxHeartbeats 4000000 in
theorem tring_awake (s t u : ByteArray) (w : World)
    (C0 : Calls Tryz.prog 58 #[.slice (some ⟨w.heap.size, 0, none⟩) 3 3] (w.alloc (Obj.cells #[.string s, .string t, .string u] 22)) (Bret (.bool false) (w.alloc (Obj.cells #[.string s, .string t, .string u] 22))))
    (htab : Lib.TabIs Tryz.prog w "internal/strconv.uint64pow10" .u64 Lib.pow10Tab) :
    Calls Tryz.prog 12 #[.string s, .string t, .string u] w (Bret (.bool true) w) := by
  have hT := Lib.tabBelow_of_tabIs htab
  have C1 : ∀ W : World, Below w.heap.size w W → Calls Tryz.prog 59 #[] W (Bret (.bool true) W) := fun W hW => playNumbers_any W (hT.on hW).here
  have B0 : Below w.heap.size w (w.alloc (Obj.cells #[.string s, .string t, .string u] 22)) := (Below.refl _ _).alloc (Nat.le_refl _) _
  have K0 := Lib.hid C0; have K1 := Lib.hid C1; have HB0 := Lib.hid B0
  clear C0 C1 B0 hT htab
  go_enter Tryz.func12, Tryz.ntmps12
  go_wp2_with (go_at_call 58; refine K0.out.mono ?_; rintro e w0 ⟨rfl, hb0⟩; refine Hid.out ?_)
  have hB0 := Below.chain HB0.out hb0; clear hb0
  refine Lib.hid ?_
  go_wp2_with (go_at_call 59; refine (K1.out _ hB0).mono ?_; rintro e w1 ⟨rfl, hb1⟩; refine Hid.out ?_)
  have hB1 := Below.chain hB0 hb1; clear hb1 hB0
  refine Lib.hid ?_
  go_wp2
  refine bodyPost_ret (v := .bool true) (by simp [results, Tryz.results12, go_sem]) rfl ?_
  exact ⟨rfl, hB1⟩

theorem tring_walk (s t u : ByteArray) (w : World) (hs : s.size ≤ 9223372036854775807) (ht : t.size ≤ 9223372036854775807) (hu : u.size ≤ 9223372036854775807)
    (htab : Lib.TabIs Tryz.prog w "internal/strconv.uint64pow10" .u64 Lib.pow10Tab) :
    Calls Tryz.prog 12 #[.string s, .string t, .string u] w fun e w' => e = .returned (.bool true) ∧ Below w.heap.size w w' := by
  have C0 := whole_three s t u w hs ht hu
  cases hr : wholeB s && (wholeB t && wholeB u)
  · rw [hr] at C0
    exact tring_awake s t u w C0 htab
  · rw [hr] at C0
    rw [Bool.and_eq_true, Bool.and_eq_true] at hr
    obtain ⟨a1, a2⟩ := whole_str hr.1
    obtain ⟨b1, b2⟩ := whole_str hr.2.1
    obtain ⟨c1, c2⟩ := whole_str hr.2.2
    exact tring_main s t u _ _ _ w a1 b1 c1 a2 b2 c2 C0 htab
end Go.Proofs.YtbadibbdoljjhaaGreatDoor
