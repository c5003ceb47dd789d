import Derived.Test.YtbadibbdoljjhaaGreatDoorCut30

set_option linter.unusedVariables false
/-
  RationalField: the walk.
-/
namespace Go.Proofs.YtbadibbdoljjhaaGreatDoor
open Go Go.Proofs Go.RowKit

theorem right_one (s : ByteArray) (w : World) (hs : s.size ≤ 9223372036854775807) :
    Calls Tryz.prog 52 #[.slice (some ⟨w.heap.size, 0, none⟩) 1 1] (w.alloc (Obj.cells #[.string s] 35)) (Bret (.bool (rokB s)) (w.alloc (Obj.cells #[.string s] 35))) := by
  have := right02 [s] w.heap.size 1 (w.alloc (Obj.cells #[.string s] 35)) (fun j h => by
    match j, h with
    | 0, _ => show _ = some (Value.string s); go_cell) (by simp) (fun x hx => by simp at hx; subst hx; exact hs) (by simp)
  rwa [show [s].all rokB = rokB s from by simp] at this
theorem right_three (s t u : ByteArray) (w : World) (hs : s.size ≤ 9223372036854775807) (ht : t.size ≤ 9223372036854775807) (hu : u.size ≤ 9223372036854775807) :
    Calls Tryz.prog 52 #[.slice (some ⟨w.heap.size, 0, none⟩) 3 3] (w.alloc (Obj.cells #[.string s, .string t, .string u] 35)) (Bret (.bool (rokB s && (rokB t && rokB u))) (w.alloc (Obj.cells #[.string s, .string t, .string u] 35))) := by
  have := right02 [s, t, u] w.heap.size 3 (w.alloc (Obj.cells #[.string s, .string t, .string u] 35)) (fun j h => by
    match j, h with
    | 0, _ => show _ = some (Value.string s); go_cell
    | 1, _ => show _ = some (Value.string t); go_cell
    | 2, _ => show _ = some (Value.string u); go_cell) (by simp) (fun x hx => by simp at hx; rcases hx with rfl | rfl | rfl <;> assumption) (by simp)
  rwa [all_three] at this

set_option maxRecDepth 20000 in
set_option maxHeartbeats 8000000 in
theorem field_zero (s u : ByteArray) (p z : Rat) (w : World) (hs : RStr s p) (hu : RStr u z) (hp : RZ 300 p) (hz : RZ 300 z)
    (C0 : Calls Tryz.prog 52 #[.slice (some ⟨w.heap.size, 0, none⟩) 3 3] (w.alloc (Obj.cells #[.string s, .string ⟨#[48]⟩, .string u] 35)) (Bret (.bool true) (w.alloc (Obj.cells #[.string s, .string ⟨#[48]⟩, .string u] 35))))
    (htab : Lib.TabIs Tryz.prog w "internal/strconv.uint64pow10" .u64 Lib.pow10Tab) :
    Calls Tryz.prog 8 #[.string s, .string ⟨#[48]⟩, .string u] w (Bret (.bool true) w) := by
  have hT := Lib.tabBelow_of_tabIs htab
  have ht := zero_rstr
  have hq : RZ 300 0 := ⟨by unfold Sz; decide +kernel, by unfold Sz; decide +kernel⟩
  have q1 := rstrZ (hp.add hq) (by decide)
  have q2 := rstrZ (hq.add hz) (by decide)
  have m1 := rstrZ (hp.mul hq) (by decide)
  have m2 := rstrZ (hq.mul hz) (by decide)
  have m5 := rstrZ (hp.mul hz) (by decide)
  have n1 := rstrZ hp.neg (by decide)
  have C1 : ∀ W : World, Below w.heap.size w W → Calls Tryz.prog 43 #[.string s, .string ⟨#[48]⟩] W (Bret (.tuple #[.string (str (ratL (p + 0))), .int .i64 0]) W) := fun W hW => by
    have := raddS hs ht hp hq (by decide) W (hT.on hW).here; exact this
  have C2 : ∀ W : World, Below w.heap.size w W → Calls Tryz.prog 43 #[.string ⟨#[48]⟩, .string s] W (Bret (.tuple #[.string (str (ratL (p + 0))), .int .i64 0]) W) := fun W hW => by
    have := raddS ht hs hq hp (by decide) W (hT.on hW).here; rwa [Rat.add_comm 0 p] at this
  have C3 : ∀ W : World, Below w.heap.size w W → Calls Tryz.prog 43 #[.string ⟨#[48]⟩, .string u] W (Bret (.tuple #[.string (str (ratL (0 + z))), .int .i64 0]) W) := fun W hW => by
    have := raddS ht hu hq hz (by decide) W (hT.on hW).here; exact this
  have C4 : ∀ W : World, Below w.heap.size w W → Calls Tryz.prog 43 #[.string (str (ratL (p + 0))), .string u] W (Bret (.tuple #[.string (str (ratL (p + 0 + z))), .int .i64 0]) W) := fun W hW => by
    have := raddS q1 hu (hp.add hq) hz (by decide) W (hT.on hW).here; exact this
  have C5 : ∀ W : World, Below w.heap.size w W → Calls Tryz.prog 43 #[.string s, .string (str (ratL (0 + z)))] W (Bret (.tuple #[.string (str (ratL (p + 0 + z))), .int .i64 0]) W) := fun W hW => by
    have := raddS hs q2 hp (hq.add hz) (by decide) W (hT.on hW).here; rwa [← Rat.add_assoc p 0 z] at this
  have C6 : ∀ W : World, Below w.heap.size w W → Calls Tryz.prog 45 #[.string (str (ratL (p + 0))), .string ⟨#[48]⟩] W (Bret (.tuple #[.string s, .int .i64 0]) W) := fun W hW => by
    have := rsubS q1 ht (hp.add hq) hq (by decide) W (hT.on hW).here; rwa [Rat.add_sub_cancel, hs.lit] at this
  have C7 : ∀ W : World, Below w.heap.size w W → Calls Tryz.prog 47 #[.string s, .string ⟨#[48]⟩] W (Bret (.tuple #[.string (str (ratL (p * 0))), .int .i64 0]) W) := fun W hW => by
    have := rmulS hs ht hp hq (by decide) W (hT.on hW).here; exact this
  have C8 : ∀ W : World, Below w.heap.size w W → Calls Tryz.prog 47 #[.string ⟨#[48]⟩, .string s] W (Bret (.tuple #[.string (str (ratL (p * 0))), .int .i64 0]) W) := fun W hW => by
    have := rmulS ht hs hq hp (by decide) W (hT.on hW).here; rwa [Rat.mul_comm 0 p] at this
  have C9 : ∀ W : World, Below w.heap.size w W → Calls Tryz.prog 47 #[.string ⟨#[48]⟩, .string u] W (Bret (.tuple #[.string (str (ratL (0 * z))), .int .i64 0]) W) := fun W hW => by
    have := rmulS ht hu hq hz (by decide) W (hT.on hW).here; exact this
  have C10 : ∀ W : World, Below w.heap.size w W → Calls Tryz.prog 47 #[.string (str (ratL (p * 0))), .string u] W (Bret (.tuple #[.string (str (ratL (p * 0 * z))), .int .i64 0]) W) := fun W hW => by
    have := rmulS m1 hu (hp.mul hq) hz (by decide) W (hT.on hW).here; exact this
  have C11 : ∀ W : World, Below w.heap.size w W → Calls Tryz.prog 47 #[.string s, .string (str (ratL (0 * z)))] W (Bret (.tuple #[.string (str (ratL (p * 0 * z))), .int .i64 0]) W) := fun W hW => by
    have := rmulS hs m2 hp (hq.mul hz) (by decide) W (hT.on hW).here; rwa [← Rat.mul_assoc p 0 z] at this
  have C12 : ∀ W : World, Below w.heap.size w W → Calls Tryz.prog 47 #[.string s, .string (str (ratL (0 + z)))] W (Bret (.tuple #[.string (str (ratL (p * (0 + z)))), .int .i64 0]) W) := fun W hW => by
    have := rmulS hs q2 hp (hq.add hz) (by decide) W (hT.on hW).here; exact this
  have C13 : ∀ W : World, Below w.heap.size w W → Calls Tryz.prog 47 #[.string s, .string u] W (Bret (.tuple #[.string (str (ratL (p * z))), .int .i64 0]) W) := fun W hW => by
    have := rmulS hs hu hp hz (by decide) W (hT.on hW).here; exact this
  have C14 : ∀ W : World, Below w.heap.size w W → Calls Tryz.prog 43 #[.string (str (ratL (p * 0))), .string (str (ratL (p * z)))] W (Bret (.tuple #[.string (str (ratL (p * (0 + z)))), .int .i64 0]) W) := fun W hW => by
    have := raddS m1 m5 (hp.mul hq) (hp.mul hz) (by decide) W (hT.on hW).here; rwa [← Rat.mul_add p 0 z] at this
  have C15 : ∀ W : World, Below w.heap.size w W → Calls Tryz.prog 49 #[.string (str (ratL (p * 0))), .string ⟨#[48]⟩] W (Bret (.tuple #[.string ⟨#[]⟩, .int .i64 19]) W) := fun W hW => by
    exact rdivS0 m1 ht W (hT.on hW).here
  have CA : ∀ W : World, Below w.heap.size w W → Calls Tryz.prog 26 #[] W (Bret (.bool true) W) := fun W hW => awake02 W (hT.on hW).here
  have B0 : Below w.heap.size w (w.alloc (Obj.cells #[.string s, .string ⟨#[48]⟩, .string u] 35)) := (Below.refl _ _).alloc (Nat.le_refl _) _
  generalize str (ratL (p * (0 + z))) = r0 at *
  generalize str (ratL (p + 0 + z)) = r1 at *
  generalize str (ratL (p * 0 * z)) = r2 at *
  generalize str (ratL (p + 0)) = r3 at *
  generalize str (ratL (0 + z)) = r4 at *
  generalize str (ratL (p * 0)) = r5 at *
  generalize str (ratL (0 * z)) = r6 at *
  generalize str (ratL (p * z)) = r7 at *
  have K0 := Lib.hid C0; have K1 := Lib.hid C1; have K2 := Lib.hid C2; have K3 := Lib.hid C3; have K4 := Lib.hid C4; have K5 := Lib.hid C5; have K6 := Lib.hid C6; have K7 := Lib.hid C7; have K8 := Lib.hid C8; have K9 := Lib.hid C9; have K10 := Lib.hid C10; have K11 := Lib.hid C11; have K12 := Lib.hid C12; have K13 := Lib.hid C13; have K14 := Lib.hid C14; have K15 := Lib.hid C15; have KA := Lib.hid CA; have HB0 := Lib.hid B0
  clear C0 C1 C2 C3 C4 C5 C6 C7 C8 C9 C10 C11 C12 C13 C14 C15 CA B0 hs ht hu hp hq hz hT htab q1 q2 m1 m2 m5 n1
  go_enter Tryz.func8, Tryz.ntmps8
  go_wp2_with (go_at_call 52; refine K0.out.mono ?_; rintro e w0 ⟨rfl, hb0⟩; refine Hid.out ?_)
  have hB0 := Below.chain HB0.out hb0; clear hb0
  refine Lib.hid ?_
  go_wp2_with (go_at_call 43; refine (K1.out _ hB0).mono ?_; rintro e w1 ⟨rfl, hb1⟩; refine Hid.out ?_)
  have hB1 := Below.chain hB0 hb1; clear hb1 hB0
  refine Lib.hid ?_
  go_wp2_with (go_at_call 43; refine (K2.out _ hB1).mono ?_; rintro e w2 ⟨rfl, hb2⟩; refine Hid.out ?_)
  have hB2 := Below.chain hB1 hb2; clear hb2 hB1
  refine Lib.hid ?_
  go_wp2_with (go_at_call 43; refine (K3.out _ hB2).mono ?_; rintro e w3 ⟨rfl, hb3⟩; refine Hid.out ?_)
  have hB3 := Below.chain hB2 hb3; clear hb3 hB2
  refine Lib.hid ?_
  go_wp2_with (go_at_call 43; refine (K4.out _ hB3).mono ?_; rintro e w4 ⟨rfl, hb4⟩; refine Hid.out ?_)
  have hB4 := Below.chain hB3 hb4; clear hb4 hB3
  refine Lib.hid ?_
  go_wp2_with (go_at_call 43; refine (K5.out _ hB4).mono ?_; rintro e w5 ⟨rfl, hb5⟩; refine Hid.out ?_)
  have hB5 := Below.chain hB4 hb5; clear hb5 hB4
  refine Lib.hid ?_
  go_wp2_with (go_at_call 45; refine (K6.out _ hB5).mono ?_; rintro e w6 ⟨rfl, hb6⟩; refine Hid.out ?_)
  have hB6 := Below.chain hB5 hb6; clear hb6 hB5
  refine Lib.hid ?_
  go_wp2_with (go_at_call 47; refine (K7.out _ hB6).mono ?_; rintro e w7 ⟨rfl, hb7⟩; refine Hid.out ?_)
  have hB7 := Below.chain hB6 hb7; clear hb7 hB6
  refine Lib.hid ?_
  go_wp2_with (go_at_call 47; refine (K8.out _ hB7).mono ?_; rintro e w8 ⟨rfl, hb8⟩; refine Hid.out ?_)
  have hB8 := Below.chain hB7 hb8; clear hb8 hB7
  refine Lib.hid ?_
  go_wp2_with (go_at_call 47; refine (K9.out _ hB8).mono ?_; rintro e w9 ⟨rfl, hb9⟩; refine Hid.out ?_)
  have hB9 := Below.chain hB8 hb9; clear hb9 hB8
  refine Lib.hid ?_
  go_wp2_with (go_at_call 47; refine (K10.out _ hB9).mono ?_; rintro e w10 ⟨rfl, hb10⟩; refine Hid.out ?_)
  have hB10 := Below.chain hB9 hb10; clear hb10 hB9
  refine Lib.hid ?_
  go_wp2_with (go_at_call 47; refine (K11.out _ hB10).mono ?_; rintro e w11 ⟨rfl, hb11⟩; refine Hid.out ?_)
  have hB11 := Below.chain hB10 hb11; clear hb11 hB10
  refine Lib.hid ?_
  go_wp2_with (go_at_call 47; refine (K12.out _ hB11).mono ?_; rintro e w12 ⟨rfl, hb12⟩; refine Hid.out ?_)
  have hB12 := Below.chain hB11 hb12; clear hb12 hB11
  refine Lib.hid ?_
  go_wp2_with (go_at_call 47; refine (K13.out _ hB12).mono ?_; rintro e w13 ⟨rfl, hb13⟩; refine Hid.out ?_)
  have hB13 := Below.chain hB12 hb13; clear hb13 hB12
  refine Lib.hid ?_
  go_wp2_with (go_at_call 43; refine (K14.out _ hB13).mono ?_; rintro e w14 ⟨rfl, hb14⟩; refine Hid.out ?_)
  have hB14 := Below.chain hB13 hb14; clear hb14 hB13
  refine Lib.hid ?_
  go_wp2_with (go_at_call 49; refine (K15.out _ hB14).mono ?_; rintro e w15 ⟨rfl, hb15⟩; refine Hid.out ?_)
  have hB15 := Below.chain hB14 hb15; clear hb15 hB14
  refine Lib.hid ?_
  go_wp2_with (go_at_call 26; refine (KA.out _ hB15).mono ?_; rintro e w16 ⟨rfl, hb16⟩; refine Hid.out ?_)
  have hB16 := Below.chain hB15 hb16; clear hb16 hB15
  refine Lib.hid ?_
  go_wp2
  refine bodyPost_ret (v := .bool true) (by simp [results, Tryz.results8, go_sem]) rfl ?_
  exact ⟨rfl, hB16⟩

set_option maxRecDepth 20000 in
set_option maxHeartbeats 8000000 in
theorem field_main (s t u : ByteArray) (p q z : Rat) (w : World) (hs : RStr s p) (ht : RStr t q) (hu : RStr u z) (hp : RZ 300 p) (hq : RZ 300 q) (hz : RZ 300 z) (h0 : q ≠ 0)
    (C0 : Calls Tryz.prog 52 #[.slice (some ⟨w.heap.size, 0, none⟩) 3 3] (w.alloc (Obj.cells #[.string s, .string t, .string u] 35)) (Bret (.bool true) (w.alloc (Obj.cells #[.string s, .string t, .string u] 35))))
    (htab : Lib.TabIs Tryz.prog w "internal/strconv.uint64pow10" .u64 Lib.pow10Tab) :
    Calls Tryz.prog 8 #[.string s, .string t, .string u] w (Bret (.bool true) w) := by
  have hT := Lib.tabBelow_of_tabIs htab
  have q1 := rstrZ (hp.add hq) (by decide)
  have q2 := rstrZ (hq.add hz) (by decide)
  have m1 := rstrZ (hp.mul hq) (by decide)
  have m2 := rstrZ (hq.mul hz) (by decide)
  have m5 := rstrZ (hp.mul hz) (by decide)
  have n1 := rstrZ hp.neg (by decide)
  have C1 : ∀ W : World, Below w.heap.size w W → Calls Tryz.prog 43 #[.string s, .string t] W (Bret (.tuple #[.string (str (ratL (p + q))), .int .i64 0]) W) := fun W hW => by
    have := raddS hs ht hp hq (by decide) W (hT.on hW).here; exact this
  have C2 : ∀ W : World, Below w.heap.size w W → Calls Tryz.prog 43 #[.string t, .string s] W (Bret (.tuple #[.string (str (ratL (p + q))), .int .i64 0]) W) := fun W hW => by
    have := raddS ht hs hq hp (by decide) W (hT.on hW).here; rwa [Rat.add_comm q p] at this
  have C3 : ∀ W : World, Below w.heap.size w W → Calls Tryz.prog 43 #[.string t, .string u] W (Bret (.tuple #[.string (str (ratL (q + z))), .int .i64 0]) W) := fun W hW => by
    have := raddS ht hu hq hz (by decide) W (hT.on hW).here; exact this
  have C4 : ∀ W : World, Below w.heap.size w W → Calls Tryz.prog 43 #[.string (str (ratL (p + q))), .string u] W (Bret (.tuple #[.string (str (ratL (p + q + z))), .int .i64 0]) W) := fun W hW => by
    have := raddS q1 hu (hp.add hq) hz (by decide) W (hT.on hW).here; exact this
  have C5 : ∀ W : World, Below w.heap.size w W → Calls Tryz.prog 43 #[.string s, .string (str (ratL (q + z)))] W (Bret (.tuple #[.string (str (ratL (p + q + z))), .int .i64 0]) W) := fun W hW => by
    have := raddS hs q2 hp (hq.add hz) (by decide) W (hT.on hW).here; rwa [← Rat.add_assoc p q z] at this
  have C6 : ∀ W : World, Below w.heap.size w W → Calls Tryz.prog 45 #[.string (str (ratL (p + q))), .string t] W (Bret (.tuple #[.string s, .int .i64 0]) W) := fun W hW => by
    have := rsubS q1 ht (hp.add hq) hq (by decide) W (hT.on hW).here; rwa [Rat.add_sub_cancel, hs.lit] at this
  have C7 : ∀ W : World, Below w.heap.size w W → Calls Tryz.prog 47 #[.string s, .string t] W (Bret (.tuple #[.string (str (ratL (p * q))), .int .i64 0]) W) := fun W hW => by
    have := rmulS hs ht hp hq (by decide) W (hT.on hW).here; exact this
  have C8 : ∀ W : World, Below w.heap.size w W → Calls Tryz.prog 47 #[.string t, .string s] W (Bret (.tuple #[.string (str (ratL (p * q))), .int .i64 0]) W) := fun W hW => by
    have := rmulS ht hs hq hp (by decide) W (hT.on hW).here; rwa [Rat.mul_comm q p] at this
  have C9 : ∀ W : World, Below w.heap.size w W → Calls Tryz.prog 47 #[.string t, .string u] W (Bret (.tuple #[.string (str (ratL (q * z))), .int .i64 0]) W) := fun W hW => by
    have := rmulS ht hu hq hz (by decide) W (hT.on hW).here; exact this
  have C10 : ∀ W : World, Below w.heap.size w W → Calls Tryz.prog 47 #[.string (str (ratL (p * q))), .string u] W (Bret (.tuple #[.string (str (ratL (p * q * z))), .int .i64 0]) W) := fun W hW => by
    have := rmulS m1 hu (hp.mul hq) hz (by decide) W (hT.on hW).here; exact this
  have C11 : ∀ W : World, Below w.heap.size w W → Calls Tryz.prog 47 #[.string s, .string (str (ratL (q * z)))] W (Bret (.tuple #[.string (str (ratL (p * q * z))), .int .i64 0]) W) := fun W hW => by
    have := rmulS hs m2 hp (hq.mul hz) (by decide) W (hT.on hW).here; rwa [← Rat.mul_assoc p q z] at this
  have C12 : ∀ W : World, Below w.heap.size w W → Calls Tryz.prog 47 #[.string s, .string (str (ratL (q + z)))] W (Bret (.tuple #[.string (str (ratL (p * (q + z)))), .int .i64 0]) W) := fun W hW => by
    have := rmulS hs q2 hp (hq.add hz) (by decide) W (hT.on hW).here; exact this
  have C13 : ∀ W : World, Below w.heap.size w W → Calls Tryz.prog 47 #[.string s, .string u] W (Bret (.tuple #[.string (str (ratL (p * z))), .int .i64 0]) W) := fun W hW => by
    have := rmulS hs hu hp hz (by decide) W (hT.on hW).here; exact this
  have C14 : ∀ W : World, Below w.heap.size w W → Calls Tryz.prog 43 #[.string (str (ratL (p * q))), .string (str (ratL (p * z)))] W (Bret (.tuple #[.string (str (ratL (p * (q + z)))), .int .i64 0]) W) := fun W hW => by
    have := raddS m1 m5 (hp.mul hq) (hp.mul hz) (by decide) W (hT.on hW).here; rwa [← Rat.mul_add p q z] at this
  have C15 : ∀ W : World, Below w.heap.size w W → Calls Tryz.prog 49 #[.string (str (ratL (p * q))), .string t] W (Bret (.tuple #[.string s, .int .i64 0]) W) := fun W hW => by
    have := rdivS m1 ht (hp.mul hq) hq h0 (by decide) W (hT.on hW).here; rwa [Rat.mul_div_cancel h0, hs.lit] at this
  have C16 : ∀ W : World, Below w.heap.size w W → Calls Tryz.prog 29 #[.string s] W (Bret (.tuple #[.string (str (ratL (-p))), .int .i64 0]) W) := fun W hW => by
    exact rnegS hs W (hT.on hW).here
  have C17 : ∀ W : World, Below w.heap.size w W → Calls Tryz.prog 43 #[.string s, .string (str (ratL (-p)))] W (Bret (.tuple #[.string ⟨#[48]⟩, .int .i64 0]) W) := fun W hW => by
    have := raddS hs n1 hp hp.neg (by decide) W (hT.on hW).here; rwa [Rat.add_neg_cancel, zero_rstr.lit] at this
  have hne := rstr_ne ht h0
  have CA : ∀ W : World, Below w.heap.size w W → Calls Tryz.prog 26 #[] W (Bret (.bool true) W) := fun W hW => awake02 W (hT.on hW).here
  have B0 : Below w.heap.size w (w.alloc (Obj.cells #[.string s, .string t, .string u] 35)) := (Below.refl _ _).alloc (Nat.le_refl _) _
  generalize str (ratL (p * (q + z))) = r0 at *
  generalize str (ratL (p + q + z)) = r1 at *
  generalize str (ratL (p * q * z)) = r2 at *
  generalize str (ratL (p + q)) = r3 at *
  generalize str (ratL (q + z)) = r4 at *
  generalize str (ratL (p * q)) = r5 at *
  generalize str (ratL (q * z)) = r6 at *
  generalize str (ratL (p * z)) = r7 at *
  generalize str (ratL (-p)) = r8 at *
  have K0 := Lib.hid C0; have K1 := Lib.hid C1; have K2 := Lib.hid C2; have K3 := Lib.hid C3; have K4 := Lib.hid C4; have K5 := Lib.hid C5; have K6 := Lib.hid C6; have K7 := Lib.hid C7; have K8 := Lib.hid C8; have K9 := Lib.hid C9; have K10 := Lib.hid C10; have K11 := Lib.hid C11; have K12 := Lib.hid C12; have K13 := Lib.hid C13; have K14 := Lib.hid C14; have K15 := Lib.hid C15; have K16 := Lib.hid C16; have K17 := Lib.hid C17; have KA := Lib.hid CA; have HB0 := Lib.hid B0
  clear C0 C1 C2 C3 C4 C5 C6 C7 C8 C9 C10 C11 C12 C13 C14 C15 C16 C17 CA B0 hs ht hu hp hq hz hT htab q1 q2 m1 m2 m5 n1 h0
  go_enter Tryz.func8, Tryz.ntmps8
  go_wp2_with (go_at_call 52; refine K0.out.mono ?_; rintro e w0 ⟨rfl, hb0⟩; refine Hid.out ?_)
  have hB0 := Below.chain HB0.out hb0; clear hb0
  refine Lib.hid ?_
  go_wp2_with (go_at_call 43; refine (K1.out _ hB0).mono ?_; rintro e w1 ⟨rfl, hb1⟩; refine Hid.out ?_)
  have hB1 := Below.chain hB0 hb1; clear hb1 hB0
  refine Lib.hid ?_
  go_wp2_with (go_at_call 43; refine (K2.out _ hB1).mono ?_; rintro e w2 ⟨rfl, hb2⟩; refine Hid.out ?_)
  have hB2 := Below.chain hB1 hb2; clear hb2 hB1
  refine Lib.hid ?_
  go_wp2_with (go_at_call 43; refine (K3.out _ hB2).mono ?_; rintro e w3 ⟨rfl, hb3⟩; refine Hid.out ?_)
  have hB3 := Below.chain hB2 hb3; clear hb3 hB2
  refine Lib.hid ?_
  go_wp2_with (go_at_call 43; refine (K4.out _ hB3).mono ?_; rintro e w4 ⟨rfl, hb4⟩; refine Hid.out ?_)
  have hB4 := Below.chain hB3 hb4; clear hb4 hB3
  refine Lib.hid ?_
  go_wp2_with (go_at_call 43; refine (K5.out _ hB4).mono ?_; rintro e w5 ⟨rfl, hb5⟩; refine Hid.out ?_)
  have hB5 := Below.chain hB4 hb5; clear hb5 hB4
  refine Lib.hid ?_
  go_wp2_with (go_at_call 45; refine (K6.out _ hB5).mono ?_; rintro e w6 ⟨rfl, hb6⟩; refine Hid.out ?_)
  have hB6 := Below.chain hB5 hb6; clear hb6 hB5
  refine Lib.hid ?_
  go_wp2_with (go_at_call 47; refine (K7.out _ hB6).mono ?_; rintro e w7 ⟨rfl, hb7⟩; refine Hid.out ?_)
  have hB7 := Below.chain hB6 hb7; clear hb7 hB6
  refine Lib.hid ?_
  go_wp2_with (go_at_call 47; refine (K8.out _ hB7).mono ?_; rintro e w8 ⟨rfl, hb8⟩; refine Hid.out ?_)
  have hB8 := Below.chain hB7 hb8; clear hb8 hB7
  refine Lib.hid ?_
  go_wp2_with (go_at_call 47; refine (K9.out _ hB8).mono ?_; rintro e w9 ⟨rfl, hb9⟩; refine Hid.out ?_)
  have hB9 := Below.chain hB8 hb9; clear hb9 hB8
  refine Lib.hid ?_
  go_wp2_with (go_at_call 47; refine (K10.out _ hB9).mono ?_; rintro e w10 ⟨rfl, hb10⟩; refine Hid.out ?_)
  have hB10 := Below.chain hB9 hb10; clear hb10 hB9
  refine Lib.hid ?_
  go_wp2_with (go_at_call 47; refine (K11.out _ hB10).mono ?_; rintro e w11 ⟨rfl, hb11⟩; refine Hid.out ?_)
  have hB11 := Below.chain hB10 hb11; clear hb11 hB10
  refine Lib.hid ?_
  go_wp2_with (go_at_call 47; refine (K12.out _ hB11).mono ?_; rintro e w12 ⟨rfl, hb12⟩; refine Hid.out ?_)
  have hB12 := Below.chain hB11 hb12; clear hb12 hB11
  refine Lib.hid ?_
  go_wp2_with (go_at_call 47; refine (K13.out _ hB12).mono ?_; rintro e w13 ⟨rfl, hb13⟩; refine Hid.out ?_)
  have hB13 := Below.chain hB12 hb13; clear hb13 hB12
  refine Lib.hid ?_
  go_wp2_with (go_at_call 43; refine (K14.out _ hB13).mono ?_; rintro e w14 ⟨rfl, hb14⟩; refine Hid.out ?_)
  have hB14 := Below.chain hB13 hb14; clear hb14 hB13
  refine Lib.hid ?_
  go_wp2_with (go_at_call 49; refine (K15.out _ hB14).mono ?_; rintro e w15 ⟨rfl, hb15⟩; refine Hid.out ?_)
  have hB15 := Below.chain hB14 hb15; clear hb15 hB14
  refine Lib.hid ?_
  go_wp2_with (go_at_call 29; refine (K16.out _ hB15).mono ?_; rintro e w16 ⟨rfl, hb16⟩; refine Hid.out ?_)
  have hB16 := Below.chain hB15 hb16; clear hb16 hB15
  refine Lib.hid ?_
  go_wp2_with (go_at_call 43; refine (K17.out _ hB16).mono ?_; rintro e w17 ⟨rfl, hb17⟩; refine Hid.out ?_)
  have hB17 := Below.chain hB16 hb17; clear hb17 hB16
  refine Lib.hid ?_
  go_wp2_with (go_at_call 26; refine (KA.out _ hB17).mono ?_; rintro e w18 ⟨rfl, hb18⟩; refine Hid.out ?_)
  have hB18 := Below.chain hB17 hb18; clear hb18 hB17
  refine Lib.hid ?_
  go_wp2
  refine bodyPost_ret (v := .bool true) (by simp [results, Tryz.results8, go_sem]) rfl ?_
  exact ⟨rfl, hB18⟩

set_option maxRecDepth 20000 in
set_option maxHeartbeats 4000000 in
theorem field_awake (s t u : ByteArray) (w : World)
    (C0 : Calls Tryz.prog 52 #[.slice (some ⟨w.heap.size, 0, none⟩) 3 3] (w.alloc (Obj.cells #[.string s, .string t, .string u] 35)) (Bret (.bool false) (w.alloc (Obj.cells #[.string s, .string t, .string u] 35))))
    (htab : Lib.TabIs Tryz.prog w "internal/strconv.uint64pow10" .u64 Lib.pow10Tab) :
    Calls Tryz.prog 8 #[.string s, .string t, .string u] w (Bret (.bool true) w) := by
  have hT := Lib.tabBelow_of_tabIs htab
  have C1 : ∀ W : World, Below w.heap.size w W → Calls Tryz.prog 26 #[] W (Bret (.bool true) W) := fun W hW => awake02 W (hT.on hW).here
  have B0 : Below w.heap.size w (w.alloc (Obj.cells #[.string s, .string t, .string u] 35)) := (Below.refl _ _).alloc (Nat.le_refl _) _
  have K0 := Lib.hid C0; have K1 := Lib.hid C1; have HB0 := Lib.hid B0
  clear C0 C1 B0 hT htab
  go_enter Tryz.func8, Tryz.ntmps8
  go_wp2_with (go_at_call 52; refine K0.out.mono ?_; rintro e w0 ⟨rfl, hb0⟩; refine Hid.out ?_)
  have hB0 := Below.chain HB0.out hb0; clear hb0
  refine Lib.hid ?_
  go_wp2_with (go_at_call 26; refine (K1.out _ hB0).mono ?_; rintro e w1 ⟨rfl, hb1⟩; refine Hid.out ?_)
  have hB1 := Below.chain hB0 hb1; clear hb1 hB0
  refine Lib.hid ?_
  go_wp2
  refine bodyPost_ret (v := .bool true) (by simp [results, Tryz.results8, go_sem]) rfl ?_
  exact ⟨rfl, hB1⟩

theorem field_walk (s t u : ByteArray) (w : World) (hs : s.size ≤ 9223372036854775807) (ht : t.size ≤ 9223372036854775807) (hu : u.size ≤ 9223372036854775807)
    (htab : Lib.TabIs Tryz.prog w "internal/strconv.uint64pow10" .u64 Lib.pow10Tab) :
    Calls Tryz.prog 8 #[.string s, .string t, .string u] w fun e w' => e = .returned (.bool true) ∧ Below w.heap.size w w' := by
  have C0 := right_three s t u w hs ht hu
  cases hr : rokB s && (rokB t && rokB u)
  · rw [hr] at C0
    exact field_awake s t u w C0 htab
  · rw [hr] at C0
    rw [Bool.and_eq_true, Bool.and_eq_true] at hr
    obtain ⟨a1, a2⟩ := rok_rstr hr.1
    obtain ⟨b1, b2⟩ := rok_rstr hr.2.1
    obtain ⟨c1, c2⟩ := rok_rstr hr.2.2
    by_cases h0 : ratV (bytes t) = 0
    · rw [h0] at b1
      obtain rfl := rstr_zero b1
      exact field_zero s u _ _ w a1 c1 a2 c2 C0 htab
    · exact field_main s t u _ _ _ w a1 b1 c1 a2 b2 c2 h0 C0 htab
end Go.Proofs.YtbadibbdoljjhaaGreatDoor
