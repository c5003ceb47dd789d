import Derived.Test.YtbadibbdoljjhaaGreatDoorCut36

set_option linter.unusedVariables false
/-
  TopRationalsField: the walk.
-/
namespace Go.Proofs.YtbadibbdoljjhaaGreatDoor
open Go Go.Proofs Go.RowKit

theorem pRadd {s t : ByteArray} {p q : Rat} {i j : Nat} (hs : RStr s p) (ht : RStr t q) (hp : RZ i p) (hq : RZ j q) (w : World) (htab : Lib.TabIs Tryz.prog w "internal/strconv.uint64pow10" .u64 Lib.pow10Tab) (hk : i + j + 1 ≤ 4096) (b : Nat) (W : World) (hP : PlayAt W b) (hW : Below w.heap.size w W) :
    Calls Tryz.prog 72 #[(.pointer (some ⟨b, 0, none⟩)), .string s, .string t] W (Bret (.string (str (ratL (p + q)))) W) := by
  have hT := Lib.tabBelow_of_tabIs htab
  exact playR_add s t _ b W hP (fun W' hW' => raddS hs ht hp hq hk W' (hT.on (Below.chain hW hW')).here)
theorem pRsub {s t : ByteArray} {p q : Rat} {i j : Nat} (hs : RStr s p) (ht : RStr t q) (hp : RZ i p) (hq : RZ j q) (w : World) (htab : Lib.TabIs Tryz.prog w "internal/strconv.uint64pow10" .u64 Lib.pow10Tab) (hk : i + j + 1 ≤ 4096) (b : Nat) (W : World) (hP : PlayAt W b) (hW : Below w.heap.size w W) :
    Calls Tryz.prog 73 #[(.pointer (some ⟨b, 0, none⟩)), .string s, .string t] W (Bret (.string (str (ratL (p - q)))) W) := by
  have hT := Lib.tabBelow_of_tabIs htab
  exact playR_sub s t _ b W hP (fun W' hW' => rsubS hs ht hp hq hk W' (hT.on (Below.chain hW hW')).here)
theorem pRmul {s t : ByteArray} {p q : Rat} {i j : Nat} (hs : RStr s p) (ht : RStr t q) (hp : RZ i p) (hq : RZ j q) (w : World) (htab : Lib.TabIs Tryz.prog w "internal/strconv.uint64pow10" .u64 Lib.pow10Tab) (hk : i + j ≤ 4096) (b : Nat) (W : World) (hP : PlayAt W b) (hW : Below w.heap.size w W) :
    Calls Tryz.prog 74 #[(.pointer (some ⟨b, 0, none⟩)), .string s, .string t] W (Bret (.string (str (ratL (p * q)))) W) := by
  have hT := Lib.tabBelow_of_tabIs htab
  exact playR_mul s t _ b W hP (fun W' hW' => rmulS hs ht hp hq hk W' (hT.on (Below.chain hW hW')).here)
theorem pRdiv {s t : ByteArray} {p q : Rat} {i j : Nat} (hs : RStr s p) (ht : RStr t q) (hp : RZ i p) (hq : RZ j q) (h0 : q ≠ 0) (w : World) (htab : Lib.TabIs Tryz.prog w "internal/strconv.uint64pow10" .u64 Lib.pow10Tab) (hk : i + j ≤ 4096) (b : Nat) (W : World) (hP : PlayAt W b) (hW : Below w.heap.size w W) :
    Calls Tryz.prog 75 #[(.pointer (some ⟨b, 0, none⟩)), .string s, .string t] W (Bret (.string (str (ratL (p / q)))) W) := by
  have hT := Lib.tabBelow_of_tabIs htab
  exact playR_div s t _ b W hP (fun W' hW' => rdivS hs ht hp hq h0 hk W' (hT.on (Below.chain hW hW')).here)
theorem pRorder {s t : ByteArray} {p q : Rat} {i j : Nat} (hs : RStr s p) (ht : RStr t q) (hp : RZ i p) (hq : RZ j q) (w : World) (htab : Lib.TabIs Tryz.prog w "internal/strconv.uint64pow10" .u64 Lib.pow10Tab) (hk : i + j ≤ 4096) (b : Nat) (W : World) (hP : PlayAt W b) (hW : Below w.heap.size w W) :
    Calls Tryz.prog 76 #[(.pointer (some ⟨b, 0, none⟩)), .string s, .string t] W (Bret (.int .i64 (ordQ p q)) W) := by
  have hT := Lib.tabBelow_of_tabIs htab
  exact playR_order s t _ b W hP (fun W' hW' => rcmpS hs ht hp hq hk W' (hT.on (Below.chain hW hW')).here)
theorem neq_lists {s t : ByteArray} (h : s ≠ t) : (s.toList == t.toList) = false := by
  rw [beq_eq_false_iff_ne]; intro e
  exact h (ByteArray.ext (Array.toList_inj.1 (by rw [ByteArray.toList_eq, ByteArray.toList_eq] at e; exact e)))
theorem eq_lists {s t : ByteArray} (h : s = t) : (s.toList == t.toList) = true := by subst h; exact beq_self_eq_true _
theorem one_div {p : Rat} (h : p ≠ 0) : p * (1 / p) = 1 := by rw [Rat.div_def, Rat.one_mul]; exact Rat.mul_inv_cancel p h
theorem mul_div_left {p q : Rat} (h : p ≠ 0) : p * q / p = q := by rw [Rat.mul_comm]; exact Rat.mul_div_cancel h
theorem one_rstr : RStr ⟨#[49]⟩ 1 := q1_str
theorem zone : RZ 1 1 := ⟨by unfold Sz; decide, by unfold Sz; decide⟩
theorem zzero : RZ 1 0 := ⟨by unfold Sz; decide, by unfold Sz; decide⟩

set_option maxRecDepth 20000 in
set_option maxHeartbeats 16000000 in
theorem trat_nm (s t u d1 r0 r1 r2 r3 r4 r5 r6 r7 r8 : ByteArray) (g : Int) (w : World) (hg0 : -1 ≤ g) (hg1 : g ≤ 1) (hz0 : (s.toList == [48]) = false) (he : (s.toList == t.toList) = false)
    (C0 : Calls Tryz.prog 71 #[.slice (some ⟨w.heap.size, 0, none⟩) 3 3] (w.alloc (Obj.cells #[.string s, .string t, .string u] 35)) (Bret (.bool true) (w.alloc (Obj.cells #[.string s, .string t, .string u] 35))))
    (C1 : ∀ (b : Nat) (W : World), PlayAt W b → Below w.heap.size w W → Calls Tryz.prog 72 #[(.pointer (some ⟨b, 0, none⟩)), .string s, .string t] W (Bret (.string r3) W))
    (C2 : ∀ (b : Nat) (W : World), PlayAt W b → Below w.heap.size w W → Calls Tryz.prog 72 #[(.pointer (some ⟨b, 0, none⟩)), .string r3, .string u] W (Bret (.string r1) W))
    (C3 : ∀ (b : Nat) (W : World), PlayAt W b → Below w.heap.size w W → Calls Tryz.prog 72 #[(.pointer (some ⟨b, 0, none⟩)), .string t, .string u] W (Bret (.string r4) W))
    (C4 : ∀ (b : Nat) (W : World), PlayAt W b → Below w.heap.size w W → Calls Tryz.prog 72 #[(.pointer (some ⟨b, 0, none⟩)), .string s, .string r4] W (Bret (.string r1) W))
    (C5 : ∀ (b : Nat) (W : World), PlayAt W b → Below w.heap.size w W → Calls Tryz.prog 72 #[(.pointer (some ⟨b, 0, none⟩)), .string s, .string t] W (Bret (.string r3) W))
    (C6 : ∀ (b : Nat) (W : World), PlayAt W b → Below w.heap.size w W → Calls Tryz.prog 72 #[(.pointer (some ⟨b, 0, none⟩)), .string t, .string s] W (Bret (.string r3) W))
    (C7 : ∀ (b : Nat) (W : World), PlayAt W b → Below w.heap.size w W → Calls Tryz.prog 72 #[(.pointer (some ⟨b, 0, none⟩)), .string s, .string t] W (Bret (.string r3) W))
    (C8 : ∀ (b : Nat) (W : World), PlayAt W b → Below w.heap.size w W → Calls Tryz.prog 73 #[(.pointer (some ⟨b, 0, none⟩)), .string r3, .string t] W (Bret (.string s) W))
    (C9 : ∀ (b : Nat) (W : World), PlayAt W b → Below w.heap.size w W → Calls Tryz.prog 74 #[(.pointer (some ⟨b, 0, none⟩)), .string s, .string t] W (Bret (.string r6) W))
    (C10 : ∀ (b : Nat) (W : World), PlayAt W b → Below w.heap.size w W → Calls Tryz.prog 74 #[(.pointer (some ⟨b, 0, none⟩)), .string t, .string s] W (Bret (.string r6) W))
    (C11 : ∀ (b : Nat) (W : World), PlayAt W b → Below w.heap.size w W → Calls Tryz.prog 74 #[(.pointer (some ⟨b, 0, none⟩)), .string s, .string t] W (Bret (.string r6) W))
    (C12 : ∀ (b : Nat) (W : World), PlayAt W b → Below w.heap.size w W → Calls Tryz.prog 74 #[(.pointer (some ⟨b, 0, none⟩)), .string r6, .string u] W (Bret (.string r2) W))
    (C13 : ∀ (b : Nat) (W : World), PlayAt W b → Below w.heap.size w W → Calls Tryz.prog 74 #[(.pointer (some ⟨b, 0, none⟩)), .string t, .string u] W (Bret (.string r7) W))
    (C14 : ∀ (b : Nat) (W : World), PlayAt W b → Below w.heap.size w W → Calls Tryz.prog 74 #[(.pointer (some ⟨b, 0, none⟩)), .string s, .string r7] W (Bret (.string r2) W))
    (C15 : ∀ (b : Nat) (W : World), PlayAt W b → Below w.heap.size w W → Calls Tryz.prog 72 #[(.pointer (some ⟨b, 0, none⟩)), .string t, .string u] W (Bret (.string r4) W))
    (C16 : ∀ (b : Nat) (W : World), PlayAt W b → Below w.heap.size w W → Calls Tryz.prog 74 #[(.pointer (some ⟨b, 0, none⟩)), .string s, .string r4] W (Bret (.string r0) W))
    (C17 : ∀ (b : Nat) (W : World), PlayAt W b → Below w.heap.size w W → Calls Tryz.prog 74 #[(.pointer (some ⟨b, 0, none⟩)), .string s, .string t] W (Bret (.string r6) W))
    (C18 : ∀ (b : Nat) (W : World), PlayAt W b → Below w.heap.size w W → Calls Tryz.prog 74 #[(.pointer (some ⟨b, 0, none⟩)), .string s, .string u] W (Bret (.string r8) W))
    (C19 : ∀ (b : Nat) (W : World), PlayAt W b → Below w.heap.size w W → Calls Tryz.prog 72 #[(.pointer (some ⟨b, 0, none⟩)), .string r6, .string r8] W (Bret (.string r0) W))
    (C20 : ∀ (b : Nat) (W : World), PlayAt W b → Below w.heap.size w W → Calls Tryz.prog 75 #[(.pointer (some ⟨b, 0, none⟩)), .string ⟨#[49]⟩, .string s] W (Bret (.string d1) W))
    (C21 : ∀ (b : Nat) (W : World), PlayAt W b → Below w.heap.size w W → Calls Tryz.prog 74 #[(.pointer (some ⟨b, 0, none⟩)), .string s, .string d1] W (Bret (.string ⟨#[49]⟩) W))
    (C22 : ∀ (b : Nat) (W : World), PlayAt W b → Below w.heap.size w W → Calls Tryz.prog 74 #[(.pointer (some ⟨b, 0, none⟩)), .string s, .string t] W (Bret (.string r6) W))
    (C23 : ∀ (b : Nat) (W : World), PlayAt W b → Below w.heap.size w W → Calls Tryz.prog 75 #[(.pointer (some ⟨b, 0, none⟩)), .string r6, .string s] W (Bret (.string t) W))
    (C24 : ∀ (b : Nat) (W : World), PlayAt W b → Below w.heap.size w W → Calls Tryz.prog 76 #[(.pointer (some ⟨b, 0, none⟩)), .string s, .string t] W (Bret (.int .i64 (-1)) W))
    (C25 : ∀ (b : Nat) (W : World), PlayAt W b → Below w.heap.size w W → Calls Tryz.prog 76 #[(.pointer (some ⟨b, 0, none⟩)), .string t, .string s] W (Bret (.int .i64 (1)) W))
    (C26 : ∀ (b : Nat) (W : World), PlayAt W b → Below w.heap.size w W → Calls Tryz.prog 72 #[(.pointer (some ⟨b, 0, none⟩)), .string s, .string u] W (Bret (.string r5) W))
    (C27 : ∀ (b : Nat) (W : World), PlayAt W b → Below w.heap.size w W → Calls Tryz.prog 72 #[(.pointer (some ⟨b, 0, none⟩)), .string t, .string u] W (Bret (.string r4) W))
    (C28 : ∀ (b : Nat) (W : World), PlayAt W b → Below w.heap.size w W → Calls Tryz.prog 76 #[(.pointer (some ⟨b, 0, none⟩)), .string r5, .string r4] W (Bret (.int .i64 (-1)) W))
    (C29 : ∀ (b : Nat) (W : World), PlayAt W b → Below w.heap.size w W → Calls Tryz.prog 74 #[(.pointer (some ⟨b, 0, none⟩)), .string s, .string u] W (Bret (.string r8) W))
    (C30 : ∀ (b : Nat) (W : World), PlayAt W b → Below w.heap.size w W → Calls Tryz.prog 74 #[(.pointer (some ⟨b, 0, none⟩)), .string t, .string u] W (Bret (.string r7) W))
    (C31 : ∀ (b : Nat) (W : World), PlayAt W b → Below w.heap.size w W → Calls Tryz.prog 76 #[(.pointer (some ⟨b, 0, none⟩)), .string r8, .string r7] W (Bret (.int .i64 (-g)) W))
    (C32 : ∀ (b : Nat) (W : World), PlayAt W b → Below w.heap.size w W → Calls Tryz.prog 76 #[(.pointer (some ⟨b, 0, none⟩)), .string u, .string ⟨#[48]⟩] W (Bret (.int .i64 (g)) W))
    (CN : ∀ W : World, Below w.heap.size w W → Calls Tryz.prog 59 #[] W (Bret (.bool true) W)) :
    Calls Tryz.prog 15 #[.string s, .string t, .string u] w (Bret (.bool true) w) := by
  have B0 : Below w.heap.size w (w.alloc (Obj.cells #[.string s, .string t, .string u] 35)) := (Below.refl _ _).alloc (Nat.le_refl _) _
  have K0 := Lib.hid C0; have K1 := Lib.hid C1; have K2 := Lib.hid C2; have K3 := Lib.hid C3; have K4 := Lib.hid C4; have K5 := Lib.hid C5; have K6 := Lib.hid C6; have K7 := Lib.hid C7; have K8 := Lib.hid C8; have K9 := Lib.hid C9; have K10 := Lib.hid C10; have K11 := Lib.hid C11; have K12 := Lib.hid C12; have K13 := Lib.hid C13; have K14 := Lib.hid C14; have K15 := Lib.hid C15; have K16 := Lib.hid C16; have K17 := Lib.hid C17; have K18 := Lib.hid C18; have K19 := Lib.hid C19; have K20 := Lib.hid C20; have K21 := Lib.hid C21; have K22 := Lib.hid C22; have K23 := Lib.hid C23; have K24 := Lib.hid C24; have K25 := Lib.hid C25; have K26 := Lib.hid C26; have K27 := Lib.hid C27; have K28 := Lib.hid C28; have K29 := Lib.hid C29; have K30 := Lib.hid C30; have K31 := Lib.hid C31; have K32 := Lib.hid C32; have KN := Lib.hid CN; have HB0 := Lib.hid B0
  clear C0 C1 C2 C3 C4 C5 C6 C7 C8 C9 C10 C11 C12 C13 C14 C15 C16 C17 C18 C19 C20 C21 C22 C23 C24 C25 C26 C27 C28 C29 C30 C31 C32 CN B0
  go_enter Tryz.func15, Tryz.ntmps15
  go_wp2_with (go_at_call 71; refine K0.out.mono ?_; rintro e w0 ⟨rfl, hb0⟩; refine Hid.out ?_)
  have hB9 := Below.chain HB0.out hb0; clear hb0
  have P0 := play_new w0 76
  have A0 : Below w0.heap.size w0 (w0.alloc (Obj.cells #[.bool true] 76)) := (Below.refl _ _).alloc (Nat.le_refl _) _
  have hB8 := Below.chain hB9 A0; clear hB9 A0
  have HP := Lib.hid P0; have H8 := Lib.hid hB8; clear P0 hB8
  refine Lib.hid ?_
  go_wp2_with fail
  have P0 := HP.out; have hB8 := H8.out; clear HP H8
  generalize w0.alloc (Obj.cells #[.bool true] 76) = W1 at *
  generalize w0.heap.size = b at *
  have K : ∀ W : World, Below W1.heap.size W1 W → PlayAt W b ∧ Below w.heap.size w W := fun W hW => ⟨P0.mono hW, Below.chain hB8 hW⟩
  have KK := Lib.hid K; clear K P0 hB8
  have hB0 := Below.refl W1.heap.size W1
  go_wp2_with (go_at_call 72; refine (K1.out _ _ (KK.out _ hB0).1 (KK.out _ hB0).2).mono ?_; rintro e w1 ⟨rfl, hb1⟩; refine Hid.out ?_)
  have hB1 := Below.chain hB0 hb1; clear hb1 hB0
  refine Lib.hid ?_
  go_wp2_with (go_at_call 72; refine (K2.out _ _ (KK.out _ hB1).1 (KK.out _ hB1).2).mono ?_; rintro e w2 ⟨rfl, hb2⟩; refine Hid.out ?_)
  have hB2 := Below.chain hB1 hb2; clear hb2 hB1
  refine Lib.hid ?_
  go_wp2_with (go_at_call 72; refine (K3.out _ _ (KK.out _ hB2).1 (KK.out _ hB2).2).mono ?_; rintro e w3 ⟨rfl, hb3⟩; refine Hid.out ?_)
  have hB3 := Below.chain hB2 hb3; clear hb3 hB2
  refine Lib.hid ?_
  go_wp2_with (go_at_call 72; refine (K4.out _ _ (KK.out _ hB3).1 (KK.out _ hB3).2).mono ?_; rintro e w4 ⟨rfl, hb4⟩; refine Hid.out ?_)
  have hB4 := Below.chain hB3 hb4; clear hb4 hB3
  refine Lib.hid ?_
  go_wp2_with (go_at_call 72; refine (K5.out _ _ (KK.out _ hB4).1 (KK.out _ hB4).2).mono ?_; rintro e w5 ⟨rfl, hb5⟩; refine Hid.out ?_)
  have hB5 := Below.chain hB4 hb5; clear hb5 hB4
  refine Lib.hid ?_
  go_wp2_with (go_at_call 72; refine (K6.out _ _ (KK.out _ hB5).1 (KK.out _ hB5).2).mono ?_; rintro e w6 ⟨rfl, hb6⟩; refine Hid.out ?_)
  have hB6 := Below.chain hB5 hb6; clear hb6 hB5
  refine Lib.hid ?_
  go_wp2_with (go_at_call 72; refine (K7.out _ _ (KK.out _ hB6).1 (KK.out _ hB6).2).mono ?_; rintro e w7 ⟨rfl, hb7⟩; refine Hid.out ?_)
  have hB7 := Below.chain hB6 hb7; clear hb7 hB6
  refine Lib.hid ?_
  go_wp2_with (go_at_call 73; refine (K8.out _ _ (KK.out _ hB7).1 (KK.out _ hB7).2).mono ?_; rintro e w8 ⟨rfl, hb8⟩; refine Hid.out ?_)
  have hB8 := Below.chain hB7 hb8; clear hb8 hB7
  refine Lib.hid ?_
  go_wp2_with (go_at_call 74; refine (K9.out _ _ (KK.out _ hB8).1 (KK.out _ hB8).2).mono ?_; rintro e w9 ⟨rfl, hb9⟩; refine Hid.out ?_)
  have hB9 := Below.chain hB8 hb9; clear hb9 hB8
  refine Lib.hid ?_
  go_wp2_with (go_at_call 74; refine (K10.out _ _ (KK.out _ hB9).1 (KK.out _ hB9).2).mono ?_; rintro e w10 ⟨rfl, hb10⟩; refine Hid.out ?_)
  have hB10 := Below.chain hB9 hb10; clear hb10 hB9
  refine Lib.hid ?_
  go_wp2_with (go_at_call 74; refine (K11.out _ _ (KK.out _ hB10).1 (KK.out _ hB10).2).mono ?_; rintro e w11 ⟨rfl, hb11⟩; refine Hid.out ?_)
  have hB11 := Below.chain hB10 hb11; clear hb11 hB10
  refine Lib.hid ?_
  go_wp2_with (go_at_call 74; refine (K12.out _ _ (KK.out _ hB11).1 (KK.out _ hB11).2).mono ?_; rintro e w12 ⟨rfl, hb12⟩; refine Hid.out ?_)
  have hB12 := Below.chain hB11 hb12; clear hb12 hB11
  refine Lib.hid ?_
  go_wp2_with (go_at_call 74; refine (K13.out _ _ (KK.out _ hB12).1 (KK.out _ hB12).2).mono ?_; rintro e w13 ⟨rfl, hb13⟩; refine Hid.out ?_)
  have hB13 := Below.chain hB12 hb13; clear hb13 hB12
  refine Lib.hid ?_
  go_wp2_with (go_at_call 74; refine (K14.out _ _ (KK.out _ hB13).1 (KK.out _ hB13).2).mono ?_; rintro e w14 ⟨rfl, hb14⟩; refine Hid.out ?_)
  have hB14 := Below.chain hB13 hb14; clear hb14 hB13
  refine Lib.hid ?_
  go_wp2_with (go_at_call 72; refine (K15.out _ _ (KK.out _ hB14).1 (KK.out _ hB14).2).mono ?_; rintro e w15 ⟨rfl, hb15⟩; refine Hid.out ?_)
  have hB15 := Below.chain hB14 hb15; clear hb15 hB14
  refine Lib.hid ?_
  go_wp2_with (go_at_call 74; refine (K16.out _ _ (KK.out _ hB15).1 (KK.out _ hB15).2).mono ?_; rintro e w16 ⟨rfl, hb16⟩; refine Hid.out ?_)
  have hB16 := Below.chain hB15 hb16; clear hb16 hB15
  refine Lib.hid ?_
  go_wp2_with (go_at_call 74; refine (K17.out _ _ (KK.out _ hB16).1 (KK.out _ hB16).2).mono ?_; rintro e w17 ⟨rfl, hb17⟩; refine Hid.out ?_)
  have hB17 := Below.chain hB16 hb17; clear hb17 hB16
  refine Lib.hid ?_
  go_wp2_with (go_at_call 74; refine (K18.out _ _ (KK.out _ hB17).1 (KK.out _ hB17).2).mono ?_; rintro e w18 ⟨rfl, hb18⟩; refine Hid.out ?_)
  have hB18 := Below.chain hB17 hb18; clear hb18 hB17
  refine Lib.hid ?_
  go_wp2_with (go_at_call 72; refine (K19.out _ _ (KK.out _ hB18).1 (KK.out _ hB18).2).mono ?_; rintro e w19 ⟨rfl, hb19⟩; refine Hid.out ?_)
  have hB19 := Below.chain hB18 hb19; clear hb19 hB18
  refine Lib.hid ?_
  go_wp2_with (go_at_call 75; refine (K20.out _ _ (KK.out _ hB19).1 (KK.out _ hB19).2).mono ?_; rintro e w20 ⟨rfl, hb20⟩; refine Hid.out ?_)
  have hB20 := Below.chain hB19 hb20; clear hb20 hB19
  refine Lib.hid ?_
  go_wp2_with (go_at_call 74; refine (K21.out _ _ (KK.out _ hB20).1 (KK.out _ hB20).2).mono ?_; rintro e w21 ⟨rfl, hb21⟩; refine Hid.out ?_)
  have hB21 := Below.chain hB20 hb21; clear hb21 hB20
  refine Lib.hid ?_
  go_wp2_with (go_at_call 74; refine (K22.out _ _ (KK.out _ hB21).1 (KK.out _ hB21).2).mono ?_; rintro e w22 ⟨rfl, hb22⟩; refine Hid.out ?_)
  have hB22 := Below.chain hB21 hb22; clear hb22 hB21
  refine Lib.hid ?_
  go_wp2_with (go_at_call 75; refine (K23.out _ _ (KK.out _ hB22).1 (KK.out _ hB22).2).mono ?_; rintro e w23 ⟨rfl, hb23⟩; refine Hid.out ?_)
  have hB23 := Below.chain hB22 hb23; clear hb23 hB22
  refine Lib.hid ?_
  go_wp2_with (go_at_call 76; refine (K24.out _ _ (KK.out _ hB23).1 (KK.out _ hB23).2).mono ?_; rintro e w24 ⟨rfl, hb24⟩; refine Hid.out ?_)
  have hB24 := Below.chain hB23 hb24; clear hb24 hB23
  refine Lib.hid ?_
  go_wp2_with (go_at_call 76; refine (K25.out _ _ (KK.out _ hB24).1 (KK.out _ hB24).2).mono ?_; rintro e w25 ⟨rfl, hb25⟩; refine Hid.out ?_)
  have hB25 := Below.chain hB24 hb25; clear hb25 hB24
  refine Lib.hid ?_
  go_wp2_with (go_at_call 72; refine (K26.out _ _ (KK.out _ hB25).1 (KK.out _ hB25).2).mono ?_; rintro e w26 ⟨rfl, hb26⟩; refine Hid.out ?_)
  have hB26 := Below.chain hB25 hb26; clear hb26 hB25
  refine Lib.hid ?_
  go_wp2_with (go_at_call 72; refine (K27.out _ _ (KK.out _ hB26).1 (KK.out _ hB26).2).mono ?_; rintro e w27 ⟨rfl, hb27⟩; refine Hid.out ?_)
  have hB27 := Below.chain hB26 hb27; clear hb27 hB26
  refine Lib.hid ?_
  go_wp2_with (go_at_call 76; refine (K28.out _ _ (KK.out _ hB27).1 (KK.out _ hB27).2).mono ?_; rintro e w28 ⟨rfl, hb28⟩; refine Hid.out ?_)
  have hB28 := Below.chain hB27 hb28; clear hb28 hB27
  refine Lib.hid ?_
  go_wp2_with (go_at_call 74; refine (K29.out _ _ (KK.out _ hB28).1 (KK.out _ hB28).2).mono ?_; rintro e w29 ⟨rfl, hb29⟩; refine Hid.out ?_)
  have hB29 := Below.chain hB28 hb29; clear hb29 hB28
  refine Lib.hid ?_
  go_wp2_with (go_at_call 74; refine (K30.out _ _ (KK.out _ hB29).1 (KK.out _ hB29).2).mono ?_; rintro e w30 ⟨rfl, hb30⟩; refine Hid.out ?_)
  have hB30 := Below.chain hB29 hb30; clear hb30 hB29
  refine Lib.hid ?_
  go_wp2_with (go_at_call 76; refine (K31.out _ _ (KK.out _ hB30).1 (KK.out _ hB30).2).mono ?_; rintro e w31 ⟨rfl, hb31⟩; refine Hid.out ?_)
  have hB31 := Below.chain hB30 hb31; clear hb31 hB30
  refine Lib.hid ?_
  go_wp2_with (go_at_call 76; refine (K32.out _ _ (KK.out _ hB31).1 (KK.out _ hB31).2).mono ?_; rintro e w32 ⟨rfl, hb32⟩; refine Hid.out ?_)
  have hB32 := Below.chain hB31 hb32; clear hb32 hB31
  refine Lib.hid ?_
  have PL := (KK.out _ hB32).1
  have c0 := PL.cell; have f0 := PL.fr; have l0 := PL.lt; clear PL
  go_wp2_with (go_at_call 59; refine (KN.out _ (KK.out _ hB32).2).mono ?_; rintro e w34 ⟨rfl, hb34⟩; refine Hid.out ?_)
  have hB34 := Below.chain hB32 hb34; clear hb34 hB32
  refine Lib.hid ?_
  go_wp2
  refine bodyPost_ret (v := .bool true) (by simp [results, Tryz.results15, go_sem]) rfl ?_
  exact ⟨rfl, (KK.out _ hB34).2⟩

set_option maxRecDepth 20000 in
set_option maxHeartbeats 16000000 in
theorem trat_n0 (s t u d1 r0 r1 r2 r3 r4 r5 r6 r7 r8 : ByteArray) (g : Int) (w : World) (hg0 : -1 ≤ g) (hg1 : g ≤ 1) (hz0 : (s.toList == [48]) = false) (he : (s.toList == t.toList) = true)
    (C0 : Calls Tryz.prog 71 #[.slice (some ⟨w.heap.size, 0, none⟩) 3 3] (w.alloc (Obj.cells #[.string s, .string t, .string u] 35)) (Bret (.bool true) (w.alloc (Obj.cells #[.string s, .string t, .string u] 35))))
    (C1 : ∀ (b : Nat) (W : World), PlayAt W b → Below w.heap.size w W → Calls Tryz.prog 72 #[(.pointer (some ⟨b, 0, none⟩)), .string s, .string t] W (Bret (.string r3) W))
    (C2 : ∀ (b : Nat) (W : World), PlayAt W b → Below w.heap.size w W → Calls Tryz.prog 72 #[(.pointer (some ⟨b, 0, none⟩)), .string r3, .string u] W (Bret (.string r1) W))
    (C3 : ∀ (b : Nat) (W : World), PlayAt W b → Below w.heap.size w W → Calls Tryz.prog 72 #[(.pointer (some ⟨b, 0, none⟩)), .string t, .string u] W (Bret (.string r4) W))
    (C4 : ∀ (b : Nat) (W : World), PlayAt W b → Below w.heap.size w W → Calls Tryz.prog 72 #[(.pointer (some ⟨b, 0, none⟩)), .string s, .string r4] W (Bret (.string r1) W))
    (C5 : ∀ (b : Nat) (W : World), PlayAt W b → Below w.heap.size w W → Calls Tryz.prog 72 #[(.pointer (some ⟨b, 0, none⟩)), .string s, .string t] W (Bret (.string r3) W))
    (C6 : ∀ (b : Nat) (W : World), PlayAt W b → Below w.heap.size w W → Calls Tryz.prog 72 #[(.pointer (some ⟨b, 0, none⟩)), .string t, .string s] W (Bret (.string r3) W))
    (C7 : ∀ (b : Nat) (W : World), PlayAt W b → Below w.heap.size w W → Calls Tryz.prog 72 #[(.pointer (some ⟨b, 0, none⟩)), .string s, .string t] W (Bret (.string r3) W))
    (C8 : ∀ (b : Nat) (W : World), PlayAt W b → Below w.heap.size w W → Calls Tryz.prog 73 #[(.pointer (some ⟨b, 0, none⟩)), .string r3, .string t] W (Bret (.string s) W))
    (C9 : ∀ (b : Nat) (W : World), PlayAt W b → Below w.heap.size w W → Calls Tryz.prog 74 #[(.pointer (some ⟨b, 0, none⟩)), .string s, .string t] W (Bret (.string r6) W))
    (C10 : ∀ (b : Nat) (W : World), PlayAt W b → Below w.heap.size w W → Calls Tryz.prog 74 #[(.pointer (some ⟨b, 0, none⟩)), .string t, .string s] W (Bret (.string r6) W))
    (C11 : ∀ (b : Nat) (W : World), PlayAt W b → Below w.heap.size w W → Calls Tryz.prog 74 #[(.pointer (some ⟨b, 0, none⟩)), .string s, .string t] W (Bret (.string r6) W))
    (C12 : ∀ (b : Nat) (W : World), PlayAt W b → Below w.heap.size w W → Calls Tryz.prog 74 #[(.pointer (some ⟨b, 0, none⟩)), .string r6, .string u] W (Bret (.string r2) W))
    (C13 : ∀ (b : Nat) (W : World), PlayAt W b → Below w.heap.size w W → Calls Tryz.prog 74 #[(.pointer (some ⟨b, 0, none⟩)), .string t, .string u] W (Bret (.string r7) W))
    (C14 : ∀ (b : Nat) (W : World), PlayAt W b → Below w.heap.size w W → Calls Tryz.prog 74 #[(.pointer (some ⟨b, 0, none⟩)), .string s, .string r7] W (Bret (.string r2) W))
    (C15 : ∀ (b : Nat) (W : World), PlayAt W b → Below w.heap.size w W → Calls Tryz.prog 72 #[(.pointer (some ⟨b, 0, none⟩)), .string t, .string u] W (Bret (.string r4) W))
    (C16 : ∀ (b : Nat) (W : World), PlayAt W b → Below w.heap.size w W → Calls Tryz.prog 74 #[(.pointer (some ⟨b, 0, none⟩)), .string s, .string r4] W (Bret (.string r0) W))
    (C17 : ∀ (b : Nat) (W : World), PlayAt W b → Below w.heap.size w W → Calls Tryz.prog 74 #[(.pointer (some ⟨b, 0, none⟩)), .string s, .string t] W (Bret (.string r6) W))
    (C18 : ∀ (b : Nat) (W : World), PlayAt W b → Below w.heap.size w W → Calls Tryz.prog 74 #[(.pointer (some ⟨b, 0, none⟩)), .string s, .string u] W (Bret (.string r8) W))
    (C19 : ∀ (b : Nat) (W : World), PlayAt W b → Below w.heap.size w W → Calls Tryz.prog 72 #[(.pointer (some ⟨b, 0, none⟩)), .string r6, .string r8] W (Bret (.string r0) W))
    (C20 : ∀ (b : Nat) (W : World), PlayAt W b → Below w.heap.size w W → Calls Tryz.prog 75 #[(.pointer (some ⟨b, 0, none⟩)), .string ⟨#[49]⟩, .string s] W (Bret (.string d1) W))
    (C21 : ∀ (b : Nat) (W : World), PlayAt W b → Below w.heap.size w W → Calls Tryz.prog 74 #[(.pointer (some ⟨b, 0, none⟩)), .string s, .string d1] W (Bret (.string ⟨#[49]⟩) W))
    (C22 : ∀ (b : Nat) (W : World), PlayAt W b → Below w.heap.size w W → Calls Tryz.prog 74 #[(.pointer (some ⟨b, 0, none⟩)), .string s, .string t] W (Bret (.string r6) W))
    (C23 : ∀ (b : Nat) (W : World), PlayAt W b → Below w.heap.size w W → Calls Tryz.prog 75 #[(.pointer (some ⟨b, 0, none⟩)), .string r6, .string s] W (Bret (.string t) W))
    (C24 : ∀ (b : Nat) (W : World), PlayAt W b → Below w.heap.size w W → Calls Tryz.prog 76 #[(.pointer (some ⟨b, 0, none⟩)), .string s, .string t] W (Bret (.int .i64 (0)) W))
    (C25 : ∀ (b : Nat) (W : World), PlayAt W b → Below w.heap.size w W → Calls Tryz.prog 76 #[(.pointer (some ⟨b, 0, none⟩)), .string t, .string s] W (Bret (.int .i64 (0)) W))
    (C26 : ∀ (b : Nat) (W : World), PlayAt W b → Below w.heap.size w W → Calls Tryz.prog 72 #[(.pointer (some ⟨b, 0, none⟩)), .string s, .string u] W (Bret (.string r5) W))
    (C27 : ∀ (b : Nat) (W : World), PlayAt W b → Below w.heap.size w W → Calls Tryz.prog 72 #[(.pointer (some ⟨b, 0, none⟩)), .string t, .string u] W (Bret (.string r4) W))
    (C28 : ∀ (b : Nat) (W : World), PlayAt W b → Below w.heap.size w W → Calls Tryz.prog 76 #[(.pointer (some ⟨b, 0, none⟩)), .string r5, .string r4] W (Bret (.int .i64 (0)) W))
    (C29 : ∀ (b : Nat) (W : World), PlayAt W b → Below w.heap.size w W → Calls Tryz.prog 74 #[(.pointer (some ⟨b, 0, none⟩)), .string s, .string u] W (Bret (.string r8) W))
    (C30 : ∀ (b : Nat) (W : World), PlayAt W b → Below w.heap.size w W → Calls Tryz.prog 74 #[(.pointer (some ⟨b, 0, none⟩)), .string t, .string u] W (Bret (.string r7) W))
    (C31 : ∀ (b : Nat) (W : World), PlayAt W b → Below w.heap.size w W → Calls Tryz.prog 76 #[(.pointer (some ⟨b, 0, none⟩)), .string r8, .string r7] W (Bret (.int .i64 (0)) W))
    (C32 : ∀ (b : Nat) (W : World), PlayAt W b → Below w.heap.size w W → Calls Tryz.prog 76 #[(.pointer (some ⟨b, 0, none⟩)), .string u, .string ⟨#[48]⟩] W (Bret (.int .i64 (g)) W))
    (CN : ∀ W : World, Below w.heap.size w W → Calls Tryz.prog 59 #[] W (Bret (.bool true) W)) :
    Calls Tryz.prog 15 #[.string s, .string t, .string u] w (Bret (.bool true) w) := by
  have B0 : Below w.heap.size w (w.alloc (Obj.cells #[.string s, .string t, .string u] 35)) := (Below.refl _ _).alloc (Nat.le_refl _) _
  have K0 := Lib.hid C0; have K1 := Lib.hid C1; have K2 := Lib.hid C2; have K3 := Lib.hid C3; have K4 := Lib.hid C4; have K5 := Lib.hid C5; have K6 := Lib.hid C6; have K7 := Lib.hid C7; have K8 := Lib.hid C8; have K9 := Lib.hid C9; have K10 := Lib.hid C10; have K11 := Lib.hid C11; have K12 := Lib.hid C12; have K13 := Lib.hid C13; have K14 := Lib.hid C14; have K15 := Lib.hid C15; have K16 := Lib.hid C16; have K17 := Lib.hid C17; have K18 := Lib.hid C18; have K19 := Lib.hid C19; have K20 := Lib.hid C20; have K21 := Lib.hid C21; have K22 := Lib.hid C22; have K23 := Lib.hid C23; have K24 := Lib.hid C24; have K25 := Lib.hid C25; have K26 := Lib.hid C26; have K27 := Lib.hid C27; have K28 := Lib.hid C28; have K29 := Lib.hid C29; have K30 := Lib.hid C30; have K31 := Lib.hid C31; have K32 := Lib.hid C32; have KN := Lib.hid CN; have HB0 := Lib.hid B0
  clear C0 C1 C2 C3 C4 C5 C6 C7 C8 C9 C10 C11 C12 C13 C14 C15 C16 C17 C18 C19 C20 C21 C22 C23 C24 C25 C26 C27 C28 C29 C30 C31 C32 CN B0
  go_enter Tryz.func15, Tryz.ntmps15
  go_wp2_with (go_at_call 71; refine K0.out.mono ?_; rintro e w0 ⟨rfl, hb0⟩; refine Hid.out ?_)
  have hB9 := Below.chain HB0.out hb0; clear hb0
  have P0 := play_new w0 76
  have A0 : Below w0.heap.size w0 (w0.alloc (Obj.cells #[.bool true] 76)) := (Below.refl _ _).alloc (Nat.le_refl _) _
  have hB8 := Below.chain hB9 A0; clear hB9 A0
  have HP := Lib.hid P0; have H8 := Lib.hid hB8; clear P0 hB8
  refine Lib.hid ?_
  go_wp2_with fail
  have P0 := HP.out; have hB8 := H8.out; clear HP H8
  generalize w0.alloc (Obj.cells #[.bool true] 76) = W1 at *
  generalize w0.heap.size = b at *
  have K : ∀ W : World, Below W1.heap.size W1 W → PlayAt W b ∧ Below w.heap.size w W := fun W hW => ⟨P0.mono hW, Below.chain hB8 hW⟩
  have KK := Lib.hid K; clear K P0 hB8
  have hB0 := Below.refl W1.heap.size W1
  go_wp2_with (go_at_call 72; refine (K1.out _ _ (KK.out _ hB0).1 (KK.out _ hB0).2).mono ?_; rintro e w1 ⟨rfl, hb1⟩; refine Hid.out ?_)
  have hB1 := Below.chain hB0 hb1; clear hb1 hB0
  refine Lib.hid ?_
  go_wp2_with (go_at_call 72; refine (K2.out _ _ (KK.out _ hB1).1 (KK.out _ hB1).2).mono ?_; rintro e w2 ⟨rfl, hb2⟩; refine Hid.out ?_)
  have hB2 := Below.chain hB1 hb2; clear hb2 hB1
  refine Lib.hid ?_
  go_wp2_with (go_at_call 72; refine (K3.out _ _ (KK.out _ hB2).1 (KK.out _ hB2).2).mono ?_; rintro e w3 ⟨rfl, hb3⟩; refine Hid.out ?_)
  have hB3 := Below.chain hB2 hb3; clear hb3 hB2
  refine Lib.hid ?_
  go_wp2_with (go_at_call 72; refine (K4.out _ _ (KK.out _ hB3).1 (KK.out _ hB3).2).mono ?_; rintro e w4 ⟨rfl, hb4⟩; refine Hid.out ?_)
  have hB4 := Below.chain hB3 hb4; clear hb4 hB3
  refine Lib.hid ?_
  go_wp2_with (go_at_call 72; refine (K5.out _ _ (KK.out _ hB4).1 (KK.out _ hB4).2).mono ?_; rintro e w5 ⟨rfl, hb5⟩; refine Hid.out ?_)
  have hB5 := Below.chain hB4 hb5; clear hb5 hB4
  refine Lib.hid ?_
  go_wp2_with (go_at_call 72; refine (K6.out _ _ (KK.out _ hB5).1 (KK.out _ hB5).2).mono ?_; rintro e w6 ⟨rfl, hb6⟩; refine Hid.out ?_)
  have hB6 := Below.chain hB5 hb6; clear hb6 hB5
  refine Lib.hid ?_
  go_wp2_with (go_at_call 72; refine (K7.out _ _ (KK.out _ hB6).1 (KK.out _ hB6).2).mono ?_; rintro e w7 ⟨rfl, hb7⟩; refine Hid.out ?_)
  have hB7 := Below.chain hB6 hb7; clear hb7 hB6
  refine Lib.hid ?_
  go_wp2_with (go_at_call 73; refine (K8.out _ _ (KK.out _ hB7).1 (KK.out _ hB7).2).mono ?_; rintro e w8 ⟨rfl, hb8⟩; refine Hid.out ?_)
  have hB8 := Below.chain hB7 hb8; clear hb8 hB7
  refine Lib.hid ?_
  go_wp2_with (go_at_call 74; refine (K9.out _ _ (KK.out _ hB8).1 (KK.out _ hB8).2).mono ?_; rintro e w9 ⟨rfl, hb9⟩; refine Hid.out ?_)
  have hB9 := Below.chain hB8 hb9; clear hb9 hB8
  refine Lib.hid ?_
  go_wp2_with (go_at_call 74; refine (K10.out _ _ (KK.out _ hB9).1 (KK.out _ hB9).2).mono ?_; rintro e w10 ⟨rfl, hb10⟩; refine Hid.out ?_)
  have hB10 := Below.chain hB9 hb10; clear hb10 hB9
  refine Lib.hid ?_
  go_wp2_with (go_at_call 74; refine (K11.out _ _ (KK.out _ hB10).1 (KK.out _ hB10).2).mono ?_; rintro e w11 ⟨rfl, hb11⟩; refine Hid.out ?_)
  have hB11 := Below.chain hB10 hb11; clear hb11 hB10
  refine Lib.hid ?_
  go_wp2_with (go_at_call 74; refine (K12.out _ _ (KK.out _ hB11).1 (KK.out _ hB11).2).mono ?_; rintro e w12 ⟨rfl, hb12⟩; refine Hid.out ?_)
  have hB12 := Below.chain hB11 hb12; clear hb12 hB11
  refine Lib.hid ?_
  go_wp2_with (go_at_call 74; refine (K13.out _ _ (KK.out _ hB12).1 (KK.out _ hB12).2).mono ?_; rintro e w13 ⟨rfl, hb13⟩; refine Hid.out ?_)
  have hB13 := Below.chain hB12 hb13; clear hb13 hB12
  refine Lib.hid ?_
  go_wp2_with (go_at_call 74; refine (K14.out _ _ (KK.out _ hB13).1 (KK.out _ hB13).2).mono ?_; rintro e w14 ⟨rfl, hb14⟩; refine Hid.out ?_)
  have hB14 := Below.chain hB13 hb14; clear hb14 hB13
  refine Lib.hid ?_
  go_wp2_with (go_at_call 72; refine (K15.out _ _ (KK.out _ hB14).1 (KK.out _ hB14).2).mono ?_; rintro e w15 ⟨rfl, hb15⟩; refine Hid.out ?_)
  have hB15 := Below.chain hB14 hb15; clear hb15 hB14
  refine Lib.hid ?_
  go_wp2_with (go_at_call 74; refine (K16.out _ _ (KK.out _ hB15).1 (KK.out _ hB15).2).mono ?_; rintro e w16 ⟨rfl, hb16⟩; refine Hid.out ?_)
  have hB16 := Below.chain hB15 hb16; clear hb16 hB15
  refine Lib.hid ?_
  go_wp2_with (go_at_call 74; refine (K17.out _ _ (KK.out _ hB16).1 (KK.out _ hB16).2).mono ?_; rintro e w17 ⟨rfl, hb17⟩; refine Hid.out ?_)
  have hB17 := Below.chain hB16 hb17; clear hb17 hB16
  refine Lib.hid ?_
  go_wp2_with (go_at_call 74; refine (K18.out _ _ (KK.out _ hB17).1 (KK.out _ hB17).2).mono ?_; rintro e w18 ⟨rfl, hb18⟩; refine Hid.out ?_)
  have hB18 := Below.chain hB17 hb18; clear hb18 hB17
  refine Lib.hid ?_
  go_wp2_with (go_at_call 72; refine (K19.out _ _ (KK.out _ hB18).1 (KK.out _ hB18).2).mono ?_; rintro e w19 ⟨rfl, hb19⟩; refine Hid.out ?_)
  have hB19 := Below.chain hB18 hb19; clear hb19 hB18
  refine Lib.hid ?_
  go_wp2_with (go_at_call 75; refine (K20.out _ _ (KK.out _ hB19).1 (KK.out _ hB19).2).mono ?_; rintro e w20 ⟨rfl, hb20⟩; refine Hid.out ?_)
  have hB20 := Below.chain hB19 hb20; clear hb20 hB19
  refine Lib.hid ?_
  go_wp2_with (go_at_call 74; refine (K21.out _ _ (KK.out _ hB20).1 (KK.out _ hB20).2).mono ?_; rintro e w21 ⟨rfl, hb21⟩; refine Hid.out ?_)
  have hB21 := Below.chain hB20 hb21; clear hb21 hB20
  refine Lib.hid ?_
  go_wp2_with (go_at_call 74; refine (K22.out _ _ (KK.out _ hB21).1 (KK.out _ hB21).2).mono ?_; rintro e w22 ⟨rfl, hb22⟩; refine Hid.out ?_)
  have hB22 := Below.chain hB21 hb22; clear hb22 hB21
  refine Lib.hid ?_
  go_wp2_with (go_at_call 75; refine (K23.out _ _ (KK.out _ hB22).1 (KK.out _ hB22).2).mono ?_; rintro e w23 ⟨rfl, hb23⟩; refine Hid.out ?_)
  have hB23 := Below.chain hB22 hb23; clear hb23 hB22
  refine Lib.hid ?_
  go_wp2_with (go_at_call 76; refine (K24.out _ _ (KK.out _ hB23).1 (KK.out _ hB23).2).mono ?_; rintro e w24 ⟨rfl, hb24⟩; refine Hid.out ?_)
  have hB24 := Below.chain hB23 hb24; clear hb24 hB23
  refine Lib.hid ?_
  go_wp2_with (go_at_call 76; refine (K25.out _ _ (KK.out _ hB24).1 (KK.out _ hB24).2).mono ?_; rintro e w25 ⟨rfl, hb25⟩; refine Hid.out ?_)
  have hB25 := Below.chain hB24 hb25; clear hb25 hB24
  refine Lib.hid ?_
  go_wp2_with (go_at_call 72; refine (K26.out _ _ (KK.out _ hB25).1 (KK.out _ hB25).2).mono ?_; rintro e w26 ⟨rfl, hb26⟩; refine Hid.out ?_)
  have hB26 := Below.chain hB25 hb26; clear hb26 hB25
  refine Lib.hid ?_
  go_wp2_with (go_at_call 72; refine (K27.out _ _ (KK.out _ hB26).1 (KK.out _ hB26).2).mono ?_; rintro e w27 ⟨rfl, hb27⟩; refine Hid.out ?_)
  have hB27 := Below.chain hB26 hb27; clear hb27 hB26
  refine Lib.hid ?_
  go_wp2_with (go_at_call 76; refine (K28.out _ _ (KK.out _ hB27).1 (KK.out _ hB27).2).mono ?_; rintro e w28 ⟨rfl, hb28⟩; refine Hid.out ?_)
  have hB28 := Below.chain hB27 hb28; clear hb28 hB27
  refine Lib.hid ?_
  go_wp2_with (go_at_call 74; refine (K29.out _ _ (KK.out _ hB28).1 (KK.out _ hB28).2).mono ?_; rintro e w29 ⟨rfl, hb29⟩; refine Hid.out ?_)
  have hB29 := Below.chain hB28 hb29; clear hb29 hB28
  refine Lib.hid ?_
  go_wp2_with (go_at_call 74; refine (K30.out _ _ (KK.out _ hB29).1 (KK.out _ hB29).2).mono ?_; rintro e w30 ⟨rfl, hb30⟩; refine Hid.out ?_)
  have hB30 := Below.chain hB29 hb30; clear hb30 hB29
  refine Lib.hid ?_
  go_wp2_with (go_at_call 76; refine (K31.out _ _ (KK.out _ hB30).1 (KK.out _ hB30).2).mono ?_; rintro e w31 ⟨rfl, hb31⟩; refine Hid.out ?_)
  have hB31 := Below.chain hB30 hb31; clear hb31 hB30
  refine Lib.hid ?_
  go_wp2_with (go_at_call 76; refine (K32.out _ _ (KK.out _ hB31).1 (KK.out _ hB31).2).mono ?_; rintro e w32 ⟨rfl, hb32⟩; refine Hid.out ?_)
  have hB32 := Below.chain hB31 hb32; clear hb32 hB31
  refine Lib.hid ?_
  have PL := (KK.out _ hB32).1
  have c0 := PL.cell; have f0 := PL.fr; have l0 := PL.lt; clear PL
  go_wp2_with (go_at_call 59; refine (KN.out _ (KK.out _ hB32).2).mono ?_; rintro e w34 ⟨rfl, hb34⟩; refine Hid.out ?_)
  have hB34 := Below.chain hB32 hb34; clear hb34 hB32
  refine Lib.hid ?_
  go_wp2
  refine bodyPost_ret (v := .bool true) (by simp [results, Tryz.results15, go_sem]) rfl ?_
  exact ⟨rfl, (KK.out _ hB34).2⟩

set_option maxRecDepth 20000 in
set_option maxHeartbeats 16000000 in
theorem trat_np (s t u d1 r0 r1 r2 r3 r4 r5 r6 r7 r8 : ByteArray) (g : Int) (w : World) (hg0 : -1 ≤ g) (hg1 : g ≤ 1) (hz0 : (s.toList == [48]) = false) (he : (s.toList == t.toList) = false)
    (C0 : Calls Tryz.prog 71 #[.slice (some ⟨w.heap.size, 0, none⟩) 3 3] (w.alloc (Obj.cells #[.string s, .string t, .string u] 35)) (Bret (.bool true) (w.alloc (Obj.cells #[.string s, .string t, .string u] 35))))
    (C1 : ∀ (b : Nat) (W : World), PlayAt W b → Below w.heap.size w W → Calls Tryz.prog 72 #[(.pointer (some ⟨b, 0, none⟩)), .string s, .string t] W (Bret (.string r3) W))
    (C2 : ∀ (b : Nat) (W : World), PlayAt W b → Below w.heap.size w W → Calls Tryz.prog 72 #[(.pointer (some ⟨b, 0, none⟩)), .string r3, .string u] W (Bret (.string r1) W))
    (C3 : ∀ (b : Nat) (W : World), PlayAt W b → Below w.heap.size w W → Calls Tryz.prog 72 #[(.pointer (some ⟨b, 0, none⟩)), .string t, .string u] W (Bret (.string r4) W))
    (C4 : ∀ (b : Nat) (W : World), PlayAt W b → Below w.heap.size w W → Calls Tryz.prog 72 #[(.pointer (some ⟨b, 0, none⟩)), .string s, .string r4] W (Bret (.string r1) W))
    (C5 : ∀ (b : Nat) (W : World), PlayAt W b → Below w.heap.size w W → Calls Tryz.prog 72 #[(.pointer (some ⟨b, 0, none⟩)), .string s, .string t] W (Bret (.string r3) W))
    (C6 : ∀ (b : Nat) (W : World), PlayAt W b → Below w.heap.size w W → Calls Tryz.prog 72 #[(.pointer (some ⟨b, 0, none⟩)), .string t, .string s] W (Bret (.string r3) W))
    (C7 : ∀ (b : Nat) (W : World), PlayAt W b → Below w.heap.size w W → Calls Tryz.prog 72 #[(.pointer (some ⟨b, 0, none⟩)), .string s, .string t] W (Bret (.string r3) W))
    (C8 : ∀ (b : Nat) (W : World), PlayAt W b → Below w.heap.size w W → Calls Tryz.prog 73 #[(.pointer (some ⟨b, 0, none⟩)), .string r3, .string t] W (Bret (.string s) W))
    (C9 : ∀ (b : Nat) (W : World), PlayAt W b → Below w.heap.size w W → Calls Tryz.prog 74 #[(.pointer (some ⟨b, 0, none⟩)), .string s, .string t] W (Bret (.string r6) W))
    (C10 : ∀ (b : Nat) (W : World), PlayAt W b → Below w.heap.size w W → Calls Tryz.prog 74 #[(.pointer (some ⟨b, 0, none⟩)), .string t, .string s] W (Bret (.string r6) W))
    (C11 : ∀ (b : Nat) (W : World), PlayAt W b → Below w.heap.size w W → Calls Tryz.prog 74 #[(.pointer (some ⟨b, 0, none⟩)), .string s, .string t] W (Bret (.string r6) W))
    (C12 : ∀ (b : Nat) (W : World), PlayAt W b → Below w.heap.size w W → Calls Tryz.prog 74 #[(.pointer (some ⟨b, 0, none⟩)), .string r6, .string u] W (Bret (.string r2) W))
    (C13 : ∀ (b : Nat) (W : World), PlayAt W b → Below w.heap.size w W → Calls Tryz.prog 74 #[(.pointer (some ⟨b, 0, none⟩)), .string t, .string u] W (Bret (.string r7) W))
    (C14 : ∀ (b : Nat) (W : World), PlayAt W b → Below w.heap.size w W → Calls Tryz.prog 74 #[(.pointer (some ⟨b, 0, none⟩)), .string s, .string r7] W (Bret (.string r2) W))
    (C15 : ∀ (b : Nat) (W : World), PlayAt W b → Below w.heap.size w W → Calls Tryz.prog 72 #[(.pointer (some ⟨b, 0, none⟩)), .string t, .string u] W (Bret (.string r4) W))
    (C16 : ∀ (b : Nat) (W : World), PlayAt W b → Below w.heap.size w W → Calls Tryz.prog 74 #[(.pointer (some ⟨b, 0, none⟩)), .string s, .string r4] W (Bret (.string r0) W))
    (C17 : ∀ (b : Nat) (W : World), PlayAt W b → Below w.heap.size w W → Calls Tryz.prog 74 #[(.pointer (some ⟨b, 0, none⟩)), .string s, .string t] W (Bret (.string r6) W))
    (C18 : ∀ (b : Nat) (W : World), PlayAt W b → Below w.heap.size w W → Calls Tryz.prog 74 #[(.pointer (some ⟨b, 0, none⟩)), .string s, .string u] W (Bret (.string r8) W))
    (C19 : ∀ (b : Nat) (W : World), PlayAt W b → Below w.heap.size w W → Calls Tryz.prog 72 #[(.pointer (some ⟨b, 0, none⟩)), .string r6, .string r8] W (Bret (.string r0) W))
    (C20 : ∀ (b : Nat) (W : World), PlayAt W b → Below w.heap.size w W → Calls Tryz.prog 75 #[(.pointer (some ⟨b, 0, none⟩)), .string ⟨#[49]⟩, .string s] W (Bret (.string d1) W))
    (C21 : ∀ (b : Nat) (W : World), PlayAt W b → Below w.heap.size w W → Calls Tryz.prog 74 #[(.pointer (some ⟨b, 0, none⟩)), .string s, .string d1] W (Bret (.string ⟨#[49]⟩) W))
    (C22 : ∀ (b : Nat) (W : World), PlayAt W b → Below w.heap.size w W → Calls Tryz.prog 74 #[(.pointer (some ⟨b, 0, none⟩)), .string s, .string t] W (Bret (.string r6) W))
    (C23 : ∀ (b : Nat) (W : World), PlayAt W b → Below w.heap.size w W → Calls Tryz.prog 75 #[(.pointer (some ⟨b, 0, none⟩)), .string r6, .string s] W (Bret (.string t) W))
    (C24 : ∀ (b : Nat) (W : World), PlayAt W b → Below w.heap.size w W → Calls Tryz.prog 76 #[(.pointer (some ⟨b, 0, none⟩)), .string s, .string t] W (Bret (.int .i64 (1)) W))
    (C25 : ∀ (b : Nat) (W : World), PlayAt W b → Below w.heap.size w W → Calls Tryz.prog 76 #[(.pointer (some ⟨b, 0, none⟩)), .string t, .string s] W (Bret (.int .i64 (-1)) W))
    (C26 : ∀ (b : Nat) (W : World), PlayAt W b → Below w.heap.size w W → Calls Tryz.prog 72 #[(.pointer (some ⟨b, 0, none⟩)), .string s, .string u] W (Bret (.string r5) W))
    (C27 : ∀ (b : Nat) (W : World), PlayAt W b → Below w.heap.size w W → Calls Tryz.prog 72 #[(.pointer (some ⟨b, 0, none⟩)), .string t, .string u] W (Bret (.string r4) W))
    (C28 : ∀ (b : Nat) (W : World), PlayAt W b → Below w.heap.size w W → Calls Tryz.prog 76 #[(.pointer (some ⟨b, 0, none⟩)), .string r5, .string r4] W (Bret (.int .i64 (1)) W))
    (C29 : ∀ (b : Nat) (W : World), PlayAt W b → Below w.heap.size w W → Calls Tryz.prog 74 #[(.pointer (some ⟨b, 0, none⟩)), .string s, .string u] W (Bret (.string r8) W))
    (C30 : ∀ (b : Nat) (W : World), PlayAt W b → Below w.heap.size w W → Calls Tryz.prog 74 #[(.pointer (some ⟨b, 0, none⟩)), .string t, .string u] W (Bret (.string r7) W))
    (C31 : ∀ (b : Nat) (W : World), PlayAt W b → Below w.heap.size w W → Calls Tryz.prog 76 #[(.pointer (some ⟨b, 0, none⟩)), .string r8, .string r7] W (Bret (.int .i64 (g)) W))
    (C32 : ∀ (b : Nat) (W : World), PlayAt W b → Below w.heap.size w W → Calls Tryz.prog 76 #[(.pointer (some ⟨b, 0, none⟩)), .string u, .string ⟨#[48]⟩] W (Bret (.int .i64 (g)) W))
    (CN : ∀ W : World, Below w.heap.size w W → Calls Tryz.prog 59 #[] W (Bret (.bool true) W)) :
    Calls Tryz.prog 15 #[.string s, .string t, .string u] w (Bret (.bool true) w) := by
  have B0 : Below w.heap.size w (w.alloc (Obj.cells #[.string s, .string t, .string u] 35)) := (Below.refl _ _).alloc (Nat.le_refl _) _
  have K0 := Lib.hid C0; have K1 := Lib.hid C1; have K2 := Lib.hid C2; have K3 := Lib.hid C3; have K4 := Lib.hid C4; have K5 := Lib.hid C5; have K6 := Lib.hid C6; have K7 := Lib.hid C7; have K8 := Lib.hid C8; have K9 := Lib.hid C9; have K10 := Lib.hid C10; have K11 := Lib.hid C11; have K12 := Lib.hid C12; have K13 := Lib.hid C13; have K14 := Lib.hid C14; have K15 := Lib.hid C15; have K16 := Lib.hid C16; have K17 := Lib.hid C17; have K18 := Lib.hid C18; have K19 := Lib.hid C19; have K20 := Lib.hid C20; have K21 := Lib.hid C21; have K22 := Lib.hid C22; have K23 := Lib.hid C23; have K24 := Lib.hid C24; have K25 := Lib.hid C25; have K26 := Lib.hid C26; have K27 := Lib.hid C27; have K28 := Lib.hid C28; have K29 := Lib.hid C29; have K30 := Lib.hid C30; have K31 := Lib.hid C31; have K32 := Lib.hid C32; have KN := Lib.hid CN; have HB0 := Lib.hid B0
  clear C0 C1 C2 C3 C4 C5 C6 C7 C8 C9 C10 C11 C12 C13 C14 C15 C16 C17 C18 C19 C20 C21 C22 C23 C24 C25 C26 C27 C28 C29 C30 C31 C32 CN B0
  go_enter Tryz.func15, Tryz.ntmps15
  go_wp2_with (go_at_call 71; refine K0.out.mono ?_; rintro e w0 ⟨rfl, hb0⟩; refine Hid.out ?_)
  have hB9 := Below.chain HB0.out hb0; clear hb0
  have P0 := play_new w0 76
  have A0 : Below w0.heap.size w0 (w0.alloc (Obj.cells #[.bool true] 76)) := (Below.refl _ _).alloc (Nat.le_refl _) _
  have hB8 := Below.chain hB9 A0; clear hB9 A0
  have HP := Lib.hid P0; have H8 := Lib.hid hB8; clear P0 hB8
  refine Lib.hid ?_
  go_wp2_with fail
  have P0 := HP.out; have hB8 := H8.out; clear HP H8
  generalize w0.alloc (Obj.cells #[.bool true] 76) = W1 at *
  generalize w0.heap.size = b at *
  have K : ∀ W : World, Below W1.heap.size W1 W → PlayAt W b ∧ Below w.heap.size w W := fun W hW => ⟨P0.mono hW, Below.chain hB8 hW⟩
  have KK := Lib.hid K; clear K P0 hB8
  have hB0 := Below.refl W1.heap.size W1
  go_wp2_with (go_at_call 72; refine (K1.out _ _ (KK.out _ hB0).1 (KK.out _ hB0).2).mono ?_; rintro e w1 ⟨rfl, hb1⟩; refine Hid.out ?_)
  have hB1 := Below.chain hB0 hb1; clear hb1 hB0
  refine Lib.hid ?_
  go_wp2_with (go_at_call 72; refine (K2.out _ _ (KK.out _ hB1).1 (KK.out _ hB1).2).mono ?_; rintro e w2 ⟨rfl, hb2⟩; refine Hid.out ?_)
  have hB2 := Below.chain hB1 hb2; clear hb2 hB1
  refine Lib.hid ?_
  go_wp2_with (go_at_call 72; refine (K3.out _ _ (KK.out _ hB2).1 (KK.out _ hB2).2).mono ?_; rintro e w3 ⟨rfl, hb3⟩; refine Hid.out ?_)
  have hB3 := Below.chain hB2 hb3; clear hb3 hB2
  refine Lib.hid ?_
  go_wp2_with (go_at_call 72; refine (K4.out _ _ (KK.out _ hB3).1 (KK.out _ hB3).2).mono ?_; rintro e w4 ⟨rfl, hb4⟩; refine Hid.out ?_)
  have hB4 := Below.chain hB3 hb4; clear hb4 hB3
  refine Lib.hid ?_
  go_wp2_with (go_at_call 72; refine (K5.out _ _ (KK.out _ hB4).1 (KK.out _ hB4).2).mono ?_; rintro e w5 ⟨rfl, hb5⟩; refine Hid.out ?_)
  have hB5 := Below.chain hB4 hb5; clear hb5 hB4
  refine Lib.hid ?_
  go_wp2_with (go_at_call 72; refine (K6.out _ _ (KK.out _ hB5).1 (KK.out _ hB5).2).mono ?_; rintro e w6 ⟨rfl, hb6⟩; refine Hid.out ?_)
  have hB6 := Below.chain hB5 hb6; clear hb6 hB5
  refine Lib.hid ?_
  go_wp2_with (go_at_call 72; refine (K7.out _ _ (KK.out _ hB6).1 (KK.out _ hB6).2).mono ?_; rintro e w7 ⟨rfl, hb7⟩; refine Hid.out ?_)
  have hB7 := Below.chain hB6 hb7; clear hb7 hB6
  refine Lib.hid ?_
  go_wp2_with (go_at_call 73; refine (K8.out _ _ (KK.out _ hB7).1 (KK.out _ hB7).2).mono ?_; rintro e w8 ⟨rfl, hb8⟩; refine Hid.out ?_)
  have hB8 := Below.chain hB7 hb8; clear hb8 hB7
  refine Lib.hid ?_
  go_wp2_with (go_at_call 74; refine (K9.out _ _ (KK.out _ hB8).1 (KK.out _ hB8).2).mono ?_; rintro e w9 ⟨rfl, hb9⟩; refine Hid.out ?_)
  have hB9 := Below.chain hB8 hb9; clear hb9 hB8
  refine Lib.hid ?_
  go_wp2_with (go_at_call 74; refine (K10.out _ _ (KK.out _ hB9).1 (KK.out _ hB9).2).mono ?_; rintro e w10 ⟨rfl, hb10⟩; refine Hid.out ?_)
  have hB10 := Below.chain hB9 hb10; clear hb10 hB9
  refine Lib.hid ?_
  go_wp2_with (go_at_call 74; refine (K11.out _ _ (KK.out _ hB10).1 (KK.out _ hB10).2).mono ?_; rintro e w11 ⟨rfl, hb11⟩; refine Hid.out ?_)
  have hB11 := Below.chain hB10 hb11; clear hb11 hB10
  refine Lib.hid ?_
  go_wp2_with (go_at_call 74; refine (K12.out _ _ (KK.out _ hB11).1 (KK.out _ hB11).2).mono ?_; rintro e w12 ⟨rfl, hb12⟩; refine Hid.out ?_)
  have hB12 := Below.chain hB11 hb12; clear hb12 hB11
  refine Lib.hid ?_
  go_wp2_with (go_at_call 74; refine (K13.out _ _ (KK.out _ hB12).1 (KK.out _ hB12).2).mono ?_; rintro e w13 ⟨rfl, hb13⟩; refine Hid.out ?_)
  have hB13 := Below.chain hB12 hb13; clear hb13 hB12
  refine Lib.hid ?_
  go_wp2_with (go_at_call 74; refine (K14.out _ _ (KK.out _ hB13).1 (KK.out _ hB13).2).mono ?_; rintro e w14 ⟨rfl, hb14⟩; refine Hid.out ?_)
  have hB14 := Below.chain hB13 hb14; clear hb14 hB13
  refine Lib.hid ?_
  go_wp2_with (go_at_call 72; refine (K15.out _ _ (KK.out _ hB14).1 (KK.out _ hB14).2).mono ?_; rintro e w15 ⟨rfl, hb15⟩; refine Hid.out ?_)
  have hB15 := Below.chain hB14 hb15; clear hb15 hB14
  refine Lib.hid ?_
  go_wp2_with (go_at_call 74; refine (K16.out _ _ (KK.out _ hB15).1 (KK.out _ hB15).2).mono ?_; rintro e w16 ⟨rfl, hb16⟩; refine Hid.out ?_)
  have hB16 := Below.chain hB15 hb16; clear hb16 hB15
  refine Lib.hid ?_
  go_wp2_with (go_at_call 74; refine (K17.out _ _ (KK.out _ hB16).1 (KK.out _ hB16).2).mono ?_; rintro e w17 ⟨rfl, hb17⟩; refine Hid.out ?_)
  have hB17 := Below.chain hB16 hb17; clear hb17 hB16
  refine Lib.hid ?_
  go_wp2_with (go_at_call 74; refine (K18.out _ _ (KK.out _ hB17).1 (KK.out _ hB17).2).mono ?_; rintro e w18 ⟨rfl, hb18⟩; refine Hid.out ?_)
  have hB18 := Below.chain hB17 hb18; clear hb18 hB17
  refine Lib.hid ?_
  go_wp2_with (go_at_call 72; refine (K19.out _ _ (KK.out _ hB18).1 (KK.out _ hB18).2).mono ?_; rintro e w19 ⟨rfl, hb19⟩; refine Hid.out ?_)
  have hB19 := Below.chain hB18 hb19; clear hb19 hB18
  refine Lib.hid ?_
  go_wp2_with (go_at_call 75; refine (K20.out _ _ (KK.out _ hB19).1 (KK.out _ hB19).2).mono ?_; rintro e w20 ⟨rfl, hb20⟩; refine Hid.out ?_)
  have hB20 := Below.chain hB19 hb20; clear hb20 hB19
  refine Lib.hid ?_
  go_wp2_with (go_at_call 74; refine (K21.out _ _ (KK.out _ hB20).1 (KK.out _ hB20).2).mono ?_; rintro e w21 ⟨rfl, hb21⟩; refine Hid.out ?_)
  have hB21 := Below.chain hB20 hb21; clear hb21 hB20
  refine Lib.hid ?_
  go_wp2_with (go_at_call 74; refine (K22.out _ _ (KK.out _ hB21).1 (KK.out _ hB21).2).mono ?_; rintro e w22 ⟨rfl, hb22⟩; refine Hid.out ?_)
  have hB22 := Below.chain hB21 hb22; clear hb22 hB21
  refine Lib.hid ?_
  go_wp2_with (go_at_call 75; refine (K23.out _ _ (KK.out _ hB22).1 (KK.out _ hB22).2).mono ?_; rintro e w23 ⟨rfl, hb23⟩; refine Hid.out ?_)
  have hB23 := Below.chain hB22 hb23; clear hb23 hB22
  refine Lib.hid ?_
  go_wp2_with (go_at_call 76; refine (K24.out _ _ (KK.out _ hB23).1 (KK.out _ hB23).2).mono ?_; rintro e w24 ⟨rfl, hb24⟩; refine Hid.out ?_)
  have hB24 := Below.chain hB23 hb24; clear hb24 hB23
  refine Lib.hid ?_
  go_wp2_with (go_at_call 76; refine (K25.out _ _ (KK.out _ hB24).1 (KK.out _ hB24).2).mono ?_; rintro e w25 ⟨rfl, hb25⟩; refine Hid.out ?_)
  have hB25 := Below.chain hB24 hb25; clear hb25 hB24
  refine Lib.hid ?_
  go_wp2_with (go_at_call 72; refine (K26.out _ _ (KK.out _ hB25).1 (KK.out _ hB25).2).mono ?_; rintro e w26 ⟨rfl, hb26⟩; refine Hid.out ?_)
  have hB26 := Below.chain hB25 hb26; clear hb26 hB25
  refine Lib.hid ?_
  go_wp2_with (go_at_call 72; refine (K27.out _ _ (KK.out _ hB26).1 (KK.out _ hB26).2).mono ?_; rintro e w27 ⟨rfl, hb27⟩; refine Hid.out ?_)
  have hB27 := Below.chain hB26 hb27; clear hb27 hB26
  refine Lib.hid ?_
  go_wp2_with (go_at_call 76; refine (K28.out _ _ (KK.out _ hB27).1 (KK.out _ hB27).2).mono ?_; rintro e w28 ⟨rfl, hb28⟩; refine Hid.out ?_)
  have hB28 := Below.chain hB27 hb28; clear hb28 hB27
  refine Lib.hid ?_
  go_wp2_with (go_at_call 74; refine (K29.out _ _ (KK.out _ hB28).1 (KK.out _ hB28).2).mono ?_; rintro e w29 ⟨rfl, hb29⟩; refine Hid.out ?_)
  have hB29 := Below.chain hB28 hb29; clear hb29 hB28
  refine Lib.hid ?_
  go_wp2_with (go_at_call 74; refine (K30.out _ _ (KK.out _ hB29).1 (KK.out _ hB29).2).mono ?_; rintro e w30 ⟨rfl, hb30⟩; refine Hid.out ?_)
  have hB30 := Below.chain hB29 hb30; clear hb30 hB29
  refine Lib.hid ?_
  go_wp2_with (go_at_call 76; refine (K31.out _ _ (KK.out _ hB30).1 (KK.out _ hB30).2).mono ?_; rintro e w31 ⟨rfl, hb31⟩; refine Hid.out ?_)
  have hB31 := Below.chain hB30 hb31; clear hb31 hB30
  refine Lib.hid ?_
  go_wp2_with (go_at_call 76; refine (K32.out _ _ (KK.out _ hB31).1 (KK.out _ hB31).2).mono ?_; rintro e w32 ⟨rfl, hb32⟩; refine Hid.out ?_)
  have hB32 := Below.chain hB31 hb32; clear hb32 hB31
  refine Lib.hid ?_
  have PL := (KK.out _ hB32).1
  have c0 := PL.cell; have f0 := PL.fr; have l0 := PL.lt; clear PL
  go_wp2_with (go_at_call 59; refine (KN.out _ (KK.out _ hB32).2).mono ?_; rintro e w34 ⟨rfl, hb34⟩; refine Hid.out ?_)
  have hB34 := Below.chain hB32 hb34; clear hb34 hB32
  refine Lib.hid ?_
  go_wp2
  refine bodyPost_ret (v := .bool true) (by simp [results, Tryz.results15, go_sem]) rfl ?_
  exact ⟨rfl, (KK.out _ hB34).2⟩

set_option maxRecDepth 20000 in
set_option maxHeartbeats 16000000 in
theorem trat_zm (s t u r0 r1 r2 r3 r4 r5 r6 r7 r8 : ByteArray) (g : Int) (w : World) (hg0 : -1 ≤ g) (hg1 : g ≤ 1) (hz0 : (s.toList == [48]) = true) (he : (s.toList == t.toList) = false)
    (C0 : Calls Tryz.prog 71 #[.slice (some ⟨w.heap.size, 0, none⟩) 3 3] (w.alloc (Obj.cells #[.string s, .string t, .string u] 35)) (Bret (.bool true) (w.alloc (Obj.cells #[.string s, .string t, .string u] 35))))
    (C1 : ∀ (b : Nat) (W : World), PlayAt W b → Below w.heap.size w W → Calls Tryz.prog 72 #[(.pointer (some ⟨b, 0, none⟩)), .string s, .string t] W (Bret (.string r3) W))
    (C2 : ∀ (b : Nat) (W : World), PlayAt W b → Below w.heap.size w W → Calls Tryz.prog 72 #[(.pointer (some ⟨b, 0, none⟩)), .string r3, .string u] W (Bret (.string r1) W))
    (C3 : ∀ (b : Nat) (W : World), PlayAt W b → Below w.heap.size w W → Calls Tryz.prog 72 #[(.pointer (some ⟨b, 0, none⟩)), .string t, .string u] W (Bret (.string r4) W))
    (C4 : ∀ (b : Nat) (W : World), PlayAt W b → Below w.heap.size w W → Calls Tryz.prog 72 #[(.pointer (some ⟨b, 0, none⟩)), .string s, .string r4] W (Bret (.string r1) W))
    (C5 : ∀ (b : Nat) (W : World), PlayAt W b → Below w.heap.size w W → Calls Tryz.prog 72 #[(.pointer (some ⟨b, 0, none⟩)), .string s, .string t] W (Bret (.string r3) W))
    (C6 : ∀ (b : Nat) (W : World), PlayAt W b → Below w.heap.size w W → Calls Tryz.prog 72 #[(.pointer (some ⟨b, 0, none⟩)), .string t, .string s] W (Bret (.string r3) W))
    (C7 : ∀ (b : Nat) (W : World), PlayAt W b → Below w.heap.size w W → Calls Tryz.prog 72 #[(.pointer (some ⟨b, 0, none⟩)), .string s, .string t] W (Bret (.string r3) W))
    (C8 : ∀ (b : Nat) (W : World), PlayAt W b → Below w.heap.size w W → Calls Tryz.prog 73 #[(.pointer (some ⟨b, 0, none⟩)), .string r3, .string t] W (Bret (.string s) W))
    (C9 : ∀ (b : Nat) (W : World), PlayAt W b → Below w.heap.size w W → Calls Tryz.prog 74 #[(.pointer (some ⟨b, 0, none⟩)), .string s, .string t] W (Bret (.string r6) W))
    (C10 : ∀ (b : Nat) (W : World), PlayAt W b → Below w.heap.size w W → Calls Tryz.prog 74 #[(.pointer (some ⟨b, 0, none⟩)), .string t, .string s] W (Bret (.string r6) W))
    (C11 : ∀ (b : Nat) (W : World), PlayAt W b → Below w.heap.size w W → Calls Tryz.prog 74 #[(.pointer (some ⟨b, 0, none⟩)), .string s, .string t] W (Bret (.string r6) W))
    (C12 : ∀ (b : Nat) (W : World), PlayAt W b → Below w.heap.size w W → Calls Tryz.prog 74 #[(.pointer (some ⟨b, 0, none⟩)), .string r6, .string u] W (Bret (.string r2) W))
    (C13 : ∀ (b : Nat) (W : World), PlayAt W b → Below w.heap.size w W → Calls Tryz.prog 74 #[(.pointer (some ⟨b, 0, none⟩)), .string t, .string u] W (Bret (.string r7) W))
    (C14 : ∀ (b : Nat) (W : World), PlayAt W b → Below w.heap.size w W → Calls Tryz.prog 74 #[(.pointer (some ⟨b, 0, none⟩)), .string s, .string r7] W (Bret (.string r2) W))
    (C15 : ∀ (b : Nat) (W : World), PlayAt W b → Below w.heap.size w W → Calls Tryz.prog 72 #[(.pointer (some ⟨b, 0, none⟩)), .string t, .string u] W (Bret (.string r4) W))
    (C16 : ∀ (b : Nat) (W : World), PlayAt W b → Below w.heap.size w W → Calls Tryz.prog 74 #[(.pointer (some ⟨b, 0, none⟩)), .string s, .string r4] W (Bret (.string r0) W))
    (C17 : ∀ (b : Nat) (W : World), PlayAt W b → Below w.heap.size w W → Calls Tryz.prog 74 #[(.pointer (some ⟨b, 0, none⟩)), .string s, .string t] W (Bret (.string r6) W))
    (C18 : ∀ (b : Nat) (W : World), PlayAt W b → Below w.heap.size w W → Calls Tryz.prog 74 #[(.pointer (some ⟨b, 0, none⟩)), .string s, .string u] W (Bret (.string r8) W))
    (C19 : ∀ (b : Nat) (W : World), PlayAt W b → Below w.heap.size w W → Calls Tryz.prog 72 #[(.pointer (some ⟨b, 0, none⟩)), .string r6, .string r8] W (Bret (.string r0) W))
    (C24 : ∀ (b : Nat) (W : World), PlayAt W b → Below w.heap.size w W → Calls Tryz.prog 76 #[(.pointer (some ⟨b, 0, none⟩)), .string s, .string t] W (Bret (.int .i64 (-1)) W))
    (C25 : ∀ (b : Nat) (W : World), PlayAt W b → Below w.heap.size w W → Calls Tryz.prog 76 #[(.pointer (some ⟨b, 0, none⟩)), .string t, .string s] W (Bret (.int .i64 (1)) W))
    (C26 : ∀ (b : Nat) (W : World), PlayAt W b → Below w.heap.size w W → Calls Tryz.prog 72 #[(.pointer (some ⟨b, 0, none⟩)), .string s, .string u] W (Bret (.string r5) W))
    (C27 : ∀ (b : Nat) (W : World), PlayAt W b → Below w.heap.size w W → Calls Tryz.prog 72 #[(.pointer (some ⟨b, 0, none⟩)), .string t, .string u] W (Bret (.string r4) W))
    (C28 : ∀ (b : Nat) (W : World), PlayAt W b → Below w.heap.size w W → Calls Tryz.prog 76 #[(.pointer (some ⟨b, 0, none⟩)), .string r5, .string r4] W (Bret (.int .i64 (-1)) W))
    (C29 : ∀ (b : Nat) (W : World), PlayAt W b → Below w.heap.size w W → Calls Tryz.prog 74 #[(.pointer (some ⟨b, 0, none⟩)), .string s, .string u] W (Bret (.string r8) W))
    (C30 : ∀ (b : Nat) (W : World), PlayAt W b → Below w.heap.size w W → Calls Tryz.prog 74 #[(.pointer (some ⟨b, 0, none⟩)), .string t, .string u] W (Bret (.string r7) W))
    (C31 : ∀ (b : Nat) (W : World), PlayAt W b → Below w.heap.size w W → Calls Tryz.prog 76 #[(.pointer (some ⟨b, 0, none⟩)), .string r8, .string r7] W (Bret (.int .i64 (-g)) W))
    (C32 : ∀ (b : Nat) (W : World), PlayAt W b → Below w.heap.size w W → Calls Tryz.prog 76 #[(.pointer (some ⟨b, 0, none⟩)), .string u, .string ⟨#[48]⟩] W (Bret (.int .i64 (g)) W))
    (CN : ∀ W : World, Below w.heap.size w W → Calls Tryz.prog 59 #[] W (Bret (.bool true) W)) :
    Calls Tryz.prog 15 #[.string s, .string t, .string u] w (Bret (.bool true) w) := by
  have B0 : Below w.heap.size w (w.alloc (Obj.cells #[.string s, .string t, .string u] 35)) := (Below.refl _ _).alloc (Nat.le_refl _) _
  have K0 := Lib.hid C0; have K1 := Lib.hid C1; have K2 := Lib.hid C2; have K3 := Lib.hid C3; have K4 := Lib.hid C4; have K5 := Lib.hid C5; have K6 := Lib.hid C6; have K7 := Lib.hid C7; have K8 := Lib.hid C8; have K9 := Lib.hid C9; have K10 := Lib.hid C10; have K11 := Lib.hid C11; have K12 := Lib.hid C12; have K13 := Lib.hid C13; have K14 := Lib.hid C14; have K15 := Lib.hid C15; have K16 := Lib.hid C16; have K17 := Lib.hid C17; have K18 := Lib.hid C18; have K19 := Lib.hid C19; have K24 := Lib.hid C24; have K25 := Lib.hid C25; have K26 := Lib.hid C26; have K27 := Lib.hid C27; have K28 := Lib.hid C28; have K29 := Lib.hid C29; have K30 := Lib.hid C30; have K31 := Lib.hid C31; have K32 := Lib.hid C32; have KN := Lib.hid CN; have HB0 := Lib.hid B0
  clear C0 C1 C2 C3 C4 C5 C6 C7 C8 C9 C10 C11 C12 C13 C14 C15 C16 C17 C18 C19 C24 C25 C26 C27 C28 C29 C30 C31 C32 CN B0
  go_enter Tryz.func15, Tryz.ntmps15
  go_wp2_with (go_at_call 71; refine K0.out.mono ?_; rintro e w0 ⟨rfl, hb0⟩; refine Hid.out ?_)
  have hB9 := Below.chain HB0.out hb0; clear hb0
  have P0 := play_new w0 76
  have A0 : Below w0.heap.size w0 (w0.alloc (Obj.cells #[.bool true] 76)) := (Below.refl _ _).alloc (Nat.le_refl _) _
  have hB8 := Below.chain hB9 A0; clear hB9 A0
  have HP := Lib.hid P0; have H8 := Lib.hid hB8; clear P0 hB8
  refine Lib.hid ?_
  go_wp2_with fail
  have P0 := HP.out; have hB8 := H8.out; clear HP H8
  generalize w0.alloc (Obj.cells #[.bool true] 76) = W1 at *
  generalize w0.heap.size = b at *
  have K : ∀ W : World, Below W1.heap.size W1 W → PlayAt W b ∧ Below w.heap.size w W := fun W hW => ⟨P0.mono hW, Below.chain hB8 hW⟩
  have KK := Lib.hid K; clear K P0 hB8
  have hB0 := Below.refl W1.heap.size W1
  go_wp2_with (go_at_call 72; refine (K1.out _ _ (KK.out _ hB0).1 (KK.out _ hB0).2).mono ?_; rintro e w1 ⟨rfl, hb1⟩; refine Hid.out ?_)
  have hB1 := Below.chain hB0 hb1; clear hb1 hB0
  refine Lib.hid ?_
  go_wp2_with (go_at_call 72; refine (K2.out _ _ (KK.out _ hB1).1 (KK.out _ hB1).2).mono ?_; rintro e w2 ⟨rfl, hb2⟩; refine Hid.out ?_)
  have hB2 := Below.chain hB1 hb2; clear hb2 hB1
  refine Lib.hid ?_
  go_wp2_with (go_at_call 72; refine (K3.out _ _ (KK.out _ hB2).1 (KK.out _ hB2).2).mono ?_; rintro e w3 ⟨rfl, hb3⟩; refine Hid.out ?_)
  have hB3 := Below.chain hB2 hb3; clear hb3 hB2
  refine Lib.hid ?_
  go_wp2_with (go_at_call 72; refine (K4.out _ _ (KK.out _ hB3).1 (KK.out _ hB3).2).mono ?_; rintro e w4 ⟨rfl, hb4⟩; refine Hid.out ?_)
  have hB4 := Below.chain hB3 hb4; clear hb4 hB3
  refine Lib.hid ?_
  go_wp2_with (go_at_call 72; refine (K5.out _ _ (KK.out _ hB4).1 (KK.out _ hB4).2).mono ?_; rintro e w5 ⟨rfl, hb5⟩; refine Hid.out ?_)
  have hB5 := Below.chain hB4 hb5; clear hb5 hB4
  refine Lib.hid ?_
  go_wp2_with (go_at_call 72; refine (K6.out _ _ (KK.out _ hB5).1 (KK.out _ hB5).2).mono ?_; rintro e w6 ⟨rfl, hb6⟩; refine Hid.out ?_)
  have hB6 := Below.chain hB5 hb6; clear hb6 hB5
  refine Lib.hid ?_
  go_wp2_with (go_at_call 72; refine (K7.out _ _ (KK.out _ hB6).1 (KK.out _ hB6).2).mono ?_; rintro e w7 ⟨rfl, hb7⟩; refine Hid.out ?_)
  have hB7 := Below.chain hB6 hb7; clear hb7 hB6
  refine Lib.hid ?_
  go_wp2_with (go_at_call 73; refine (K8.out _ _ (KK.out _ hB7).1 (KK.out _ hB7).2).mono ?_; rintro e w8 ⟨rfl, hb8⟩; refine Hid.out ?_)
  have hB8 := Below.chain hB7 hb8; clear hb8 hB7
  refine Lib.hid ?_
  go_wp2_with (go_at_call 74; refine (K9.out _ _ (KK.out _ hB8).1 (KK.out _ hB8).2).mono ?_; rintro e w9 ⟨rfl, hb9⟩; refine Hid.out ?_)
  have hB9 := Below.chain hB8 hb9; clear hb9 hB8
  refine Lib.hid ?_
  go_wp2_with (go_at_call 74; refine (K10.out _ _ (KK.out _ hB9).1 (KK.out _ hB9).2).mono ?_; rintro e w10 ⟨rfl, hb10⟩; refine Hid.out ?_)
  have hB10 := Below.chain hB9 hb10; clear hb10 hB9
  refine Lib.hid ?_
  go_wp2_with (go_at_call 74; refine (K11.out _ _ (KK.out _ hB10).1 (KK.out _ hB10).2).mono ?_; rintro e w11 ⟨rfl, hb11⟩; refine Hid.out ?_)
  have hB11 := Below.chain hB10 hb11; clear hb11 hB10
  refine Lib.hid ?_
  go_wp2_with (go_at_call 74; refine (K12.out _ _ (KK.out _ hB11).1 (KK.out _ hB11).2).mono ?_; rintro e w12 ⟨rfl, hb12⟩; refine Hid.out ?_)
  have hB12 := Below.chain hB11 hb12; clear hb12 hB11
  refine Lib.hid ?_
  go_wp2_with (go_at_call 74; refine (K13.out _ _ (KK.out _ hB12).1 (KK.out _ hB12).2).mono ?_; rintro e w13 ⟨rfl, hb13⟩; refine Hid.out ?_)
  have hB13 := Below.chain hB12 hb13; clear hb13 hB12
  refine Lib.hid ?_
  go_wp2_with (go_at_call 74; refine (K14.out _ _ (KK.out _ hB13).1 (KK.out _ hB13).2).mono ?_; rintro e w14 ⟨rfl, hb14⟩; refine Hid.out ?_)
  have hB14 := Below.chain hB13 hb14; clear hb14 hB13
  refine Lib.hid ?_
  go_wp2_with (go_at_call 72; refine (K15.out _ _ (KK.out _ hB14).1 (KK.out _ hB14).2).mono ?_; rintro e w15 ⟨rfl, hb15⟩; refine Hid.out ?_)
  have hB15 := Below.chain hB14 hb15; clear hb15 hB14
  refine Lib.hid ?_
  go_wp2_with (go_at_call 74; refine (K16.out _ _ (KK.out _ hB15).1 (KK.out _ hB15).2).mono ?_; rintro e w16 ⟨rfl, hb16⟩; refine Hid.out ?_)
  have hB16 := Below.chain hB15 hb16; clear hb16 hB15
  refine Lib.hid ?_
  go_wp2_with (go_at_call 74; refine (K17.out _ _ (KK.out _ hB16).1 (KK.out _ hB16).2).mono ?_; rintro e w17 ⟨rfl, hb17⟩; refine Hid.out ?_)
  have hB17 := Below.chain hB16 hb17; clear hb17 hB16
  refine Lib.hid ?_
  go_wp2_with (go_at_call 74; refine (K18.out _ _ (KK.out _ hB17).1 (KK.out _ hB17).2).mono ?_; rintro e w18 ⟨rfl, hb18⟩; refine Hid.out ?_)
  have hB18 := Below.chain hB17 hb18; clear hb18 hB17
  refine Lib.hid ?_
  go_wp2_with (go_at_call 72; refine (K19.out _ _ (KK.out _ hB18).1 (KK.out _ hB18).2).mono ?_; rintro e w19 ⟨rfl, hb19⟩; refine Hid.out ?_)
  have hB19 := Below.chain hB18 hb19; clear hb19 hB18
  refine Lib.hid ?_
  go_wp2_with (go_at_call 76; refine (K24.out _ _ (KK.out _ hB19).1 (KK.out _ hB19).2).mono ?_; rintro e w20 ⟨rfl, hb20⟩; refine Hid.out ?_)
  have hB20 := Below.chain hB19 hb20; clear hb20 hB19
  refine Lib.hid ?_
  go_wp2_with (go_at_call 76; refine (K25.out _ _ (KK.out _ hB20).1 (KK.out _ hB20).2).mono ?_; rintro e w21 ⟨rfl, hb21⟩; refine Hid.out ?_)
  have hB21 := Below.chain hB20 hb21; clear hb21 hB20
  refine Lib.hid ?_
  go_wp2_with (go_at_call 72; refine (K26.out _ _ (KK.out _ hB21).1 (KK.out _ hB21).2).mono ?_; rintro e w22 ⟨rfl, hb22⟩; refine Hid.out ?_)
  have hB22 := Below.chain hB21 hb22; clear hb22 hB21
  refine Lib.hid ?_
  go_wp2_with (go_at_call 72; refine (K27.out _ _ (KK.out _ hB22).1 (KK.out _ hB22).2).mono ?_; rintro e w23 ⟨rfl, hb23⟩; refine Hid.out ?_)
  have hB23 := Below.chain hB22 hb23; clear hb23 hB22
  refine Lib.hid ?_
  go_wp2_with (go_at_call 76; refine (K28.out _ _ (KK.out _ hB23).1 (KK.out _ hB23).2).mono ?_; rintro e w24 ⟨rfl, hb24⟩; refine Hid.out ?_)
  have hB24 := Below.chain hB23 hb24; clear hb24 hB23
  refine Lib.hid ?_
  go_wp2_with (go_at_call 74; refine (K29.out _ _ (KK.out _ hB24).1 (KK.out _ hB24).2).mono ?_; rintro e w25 ⟨rfl, hb25⟩; refine Hid.out ?_)
  have hB25 := Below.chain hB24 hb25; clear hb25 hB24
  refine Lib.hid ?_
  go_wp2_with (go_at_call 74; refine (K30.out _ _ (KK.out _ hB25).1 (KK.out _ hB25).2).mono ?_; rintro e w26 ⟨rfl, hb26⟩; refine Hid.out ?_)
  have hB26 := Below.chain hB25 hb26; clear hb26 hB25
  refine Lib.hid ?_
  go_wp2_with (go_at_call 76; refine (K31.out _ _ (KK.out _ hB26).1 (KK.out _ hB26).2).mono ?_; rintro e w27 ⟨rfl, hb27⟩; refine Hid.out ?_)
  have hB27 := Below.chain hB26 hb27; clear hb27 hB26
  refine Lib.hid ?_
  go_wp2_with (go_at_call 76; refine (K32.out _ _ (KK.out _ hB27).1 (KK.out _ hB27).2).mono ?_; rintro e w28 ⟨rfl, hb28⟩; refine Hid.out ?_)
  have hB28 := Below.chain hB27 hb28; clear hb28 hB27
  refine Lib.hid ?_
  have PL := (KK.out _ hB28).1
  have c0 := PL.cell; have f0 := PL.fr; have l0 := PL.lt; clear PL
  go_wp2_with (go_at_call 59; refine (KN.out _ (KK.out _ hB28).2).mono ?_; rintro e w30 ⟨rfl, hb30⟩; refine Hid.out ?_)
  have hB30 := Below.chain hB28 hb30; clear hb30 hB28
  refine Lib.hid ?_
  go_wp2
  refine bodyPost_ret (v := .bool true) (by simp [results, Tryz.results15, go_sem]) rfl ?_
  exact ⟨rfl, (KK.out _ hB30).2⟩

set_option maxRecDepth 20000 in
set_option maxHeartbeats 16000000 in
theorem trat_z0 (s t u r0 r1 r2 r3 r4 r5 r6 r7 r8 : ByteArray) (g : Int) (w : World) (hg0 : -1 ≤ g) (hg1 : g ≤ 1) (hz0 : (s.toList == [48]) = true) (he : (s.toList == t.toList) = true)
    (C0 : Calls Tryz.prog 71 #[.slice (some ⟨w.heap.size, 0, none⟩) 3 3] (w.alloc (Obj.cells #[.string s, .string t, .string u] 35)) (Bret (.bool true) (w.alloc (Obj.cells #[.string s, .string t, .string u] 35))))
    (C1 : ∀ (b : Nat) (W : World), PlayAt W b → Below w.heap.size w W → Calls Tryz.prog 72 #[(.pointer (some ⟨b, 0, none⟩)), .string s, .string t] W (Bret (.string r3) W))
    (C2 : ∀ (b : Nat) (W : World), PlayAt W b → Below w.heap.size w W → Calls Tryz.prog 72 #[(.pointer (some ⟨b, 0, none⟩)), .string r3, .string u] W (Bret (.string r1) W))
    (C3 : ∀ (b : Nat) (W : World), PlayAt W b → Below w.heap.size w W → Calls Tryz.prog 72 #[(.pointer (some ⟨b, 0, none⟩)), .string t, .string u] W (Bret (.string r4) W))
    (C4 : ∀ (b : Nat) (W : World), PlayAt W b → Below w.heap.size w W → Calls Tryz.prog 72 #[(.pointer (some ⟨b, 0, none⟩)), .string s, .string r4] W (Bret (.string r1) W))
    (C5 : ∀ (b : Nat) (W : World), PlayAt W b → Below w.heap.size w W → Calls Tryz.prog 72 #[(.pointer (some ⟨b, 0, none⟩)), .string s, .string t] W (Bret (.string r3) W))
    (C6 : ∀ (b : Nat) (W : World), PlayAt W b → Below w.heap.size w W → Calls Tryz.prog 72 #[(.pointer (some ⟨b, 0, none⟩)), .string t, .string s] W (Bret (.string r3) W))
    (C7 : ∀ (b : Nat) (W : World), PlayAt W b → Below w.heap.size w W → Calls Tryz.prog 72 #[(.pointer (some ⟨b, 0, none⟩)), .string s, .string t] W (Bret (.string r3) W))
    (C8 : ∀ (b : Nat) (W : World), PlayAt W b → Below w.heap.size w W → Calls Tryz.prog 73 #[(.pointer (some ⟨b, 0, none⟩)), .string r3, .string t] W (Bret (.string s) W))
    (C9 : ∀ (b : Nat) (W : World), PlayAt W b → Below w.heap.size w W → Calls Tryz.prog 74 #[(.pointer (some ⟨b, 0, none⟩)), .string s, .string t] W (Bret (.string r6) W))
    (C10 : ∀ (b : Nat) (W : World), PlayAt W b → Below w.heap.size w W → Calls Tryz.prog 74 #[(.pointer (some ⟨b, 0, none⟩)), .string t, .string s] W (Bret (.string r6) W))
    (C11 : ∀ (b : Nat) (W : World), PlayAt W b → Below w.heap.size w W → Calls Tryz.prog 74 #[(.pointer (some ⟨b, 0, none⟩)), .string s, .string t] W (Bret (.string r6) W))
    (C12 : ∀ (b : Nat) (W : World), PlayAt W b → Below w.heap.size w W → Calls Tryz.prog 74 #[(.pointer (some ⟨b, 0, none⟩)), .string r6, .string u] W (Bret (.string r2) W))
    (C13 : ∀ (b : Nat) (W : World), PlayAt W b → Below w.heap.size w W → Calls Tryz.prog 74 #[(.pointer (some ⟨b, 0, none⟩)), .string t, .string u] W (Bret (.string r7) W))
    (C14 : ∀ (b : Nat) (W : World), PlayAt W b → Below w.heap.size w W → Calls Tryz.prog 74 #[(.pointer (some ⟨b, 0, none⟩)), .string s, .string r7] W (Bret (.string r2) W))
    (C15 : ∀ (b : Nat) (W : World), PlayAt W b → Below w.heap.size w W → Calls Tryz.prog 72 #[(.pointer (some ⟨b, 0, none⟩)), .string t, .string u] W (Bret (.string r4) W))
    (C16 : ∀ (b : Nat) (W : World), PlayAt W b → Below w.heap.size w W → Calls Tryz.prog 74 #[(.pointer (some ⟨b, 0, none⟩)), .string s, .string r4] W (Bret (.string r0) W))
    (C17 : ∀ (b : Nat) (W : World), PlayAt W b → Below w.heap.size w W → Calls Tryz.prog 74 #[(.pointer (some ⟨b, 0, none⟩)), .string s, .string t] W (Bret (.string r6) W))
    (C18 : ∀ (b : Nat) (W : World), PlayAt W b → Below w.heap.size w W → Calls Tryz.prog 74 #[(.pointer (some ⟨b, 0, none⟩)), .string s, .string u] W (Bret (.string r8) W))
    (C19 : ∀ (b : Nat) (W : World), PlayAt W b → Below w.heap.size w W → Calls Tryz.prog 72 #[(.pointer (some ⟨b, 0, none⟩)), .string r6, .string r8] W (Bret (.string r0) W))
    (C24 : ∀ (b : Nat) (W : World), PlayAt W b → Below w.heap.size w W → Calls Tryz.prog 76 #[(.pointer (some ⟨b, 0, none⟩)), .string s, .string t] W (Bret (.int .i64 (0)) W))
    (C25 : ∀ (b : Nat) (W : World), PlayAt W b → Below w.heap.size w W → Calls Tryz.prog 76 #[(.pointer (some ⟨b, 0, none⟩)), .string t, .string s] W (Bret (.int .i64 (0)) W))
    (C26 : ∀ (b : Nat) (W : World), PlayAt W b → Below w.heap.size w W → Calls Tryz.prog 72 #[(.pointer (some ⟨b, 0, none⟩)), .string s, .string u] W (Bret (.string r5) W))
    (C27 : ∀ (b : Nat) (W : World), PlayAt W b → Below w.heap.size w W → Calls Tryz.prog 72 #[(.pointer (some ⟨b, 0, none⟩)), .string t, .string u] W (Bret (.string r4) W))
    (C28 : ∀ (b : Nat) (W : World), PlayAt W b → Below w.heap.size w W → Calls Tryz.prog 76 #[(.pointer (some ⟨b, 0, none⟩)), .string r5, .string r4] W (Bret (.int .i64 (0)) W))
    (C29 : ∀ (b : Nat) (W : World), PlayAt W b → Below w.heap.size w W → Calls Tryz.prog 74 #[(.pointer (some ⟨b, 0, none⟩)), .string s, .string u] W (Bret (.string r8) W))
    (C30 : ∀ (b : Nat) (W : World), PlayAt W b → Below w.heap.size w W → Calls Tryz.prog 74 #[(.pointer (some ⟨b, 0, none⟩)), .string t, .string u] W (Bret (.string r7) W))
    (C31 : ∀ (b : Nat) (W : World), PlayAt W b → Below w.heap.size w W → Calls Tryz.prog 76 #[(.pointer (some ⟨b, 0, none⟩)), .string r8, .string r7] W (Bret (.int .i64 (0)) W))
    (C32 : ∀ (b : Nat) (W : World), PlayAt W b → Below w.heap.size w W → Calls Tryz.prog 76 #[(.pointer (some ⟨b, 0, none⟩)), .string u, .string ⟨#[48]⟩] W (Bret (.int .i64 (g)) W))
    (CN : ∀ W : World, Below w.heap.size w W → Calls Tryz.prog 59 #[] W (Bret (.bool true) W)) :
    Calls Tryz.prog 15 #[.string s, .string t, .string u] w (Bret (.bool true) w) := by
  have B0 : Below w.heap.size w (w.alloc (Obj.cells #[.string s, .string t, .string u] 35)) := (Below.refl _ _).alloc (Nat.le_refl _) _
  have K0 := Lib.hid C0; have K1 := Lib.hid C1; have K2 := Lib.hid C2; have K3 := Lib.hid C3; have K4 := Lib.hid C4; have K5 := Lib.hid C5; have K6 := Lib.hid C6; have K7 := Lib.hid C7; have K8 := Lib.hid C8; have K9 := Lib.hid C9; have K10 := Lib.hid C10; have K11 := Lib.hid C11; have K12 := Lib.hid C12; have K13 := Lib.hid C13; have K14 := Lib.hid C14; have K15 := Lib.hid C15; have K16 := Lib.hid C16; have K17 := Lib.hid C17; have K18 := Lib.hid C18; have K19 := Lib.hid C19; have K24 := Lib.hid C24; have K25 := Lib.hid C25; have K26 := Lib.hid C26; have K27 := Lib.hid C27; have K28 := Lib.hid C28; have K29 := Lib.hid C29; have K30 := Lib.hid C30; have K31 := Lib.hid C31; have K32 := Lib.hid C32; have KN := Lib.hid CN; have HB0 := Lib.hid B0
  clear C0 C1 C2 C3 C4 C5 C6 C7 C8 C9 C10 C11 C12 C13 C14 C15 C16 C17 C18 C19 C24 C25 C26 C27 C28 C29 C30 C31 C32 CN B0
  go_enter Tryz.func15, Tryz.ntmps15
  go_wp2_with (go_at_call 71; refine K0.out.mono ?_; rintro e w0 ⟨rfl, hb0⟩; refine Hid.out ?_)
  have hB9 := Below.chain HB0.out hb0; clear hb0
  have P0 := play_new w0 76
  have A0 : Below w0.heap.size w0 (w0.alloc (Obj.cells #[.bool true] 76)) := (Below.refl _ _).alloc (Nat.le_refl _) _
  have hB8 := Below.chain hB9 A0; clear hB9 A0
  have HP := Lib.hid P0; have H8 := Lib.hid hB8; clear P0 hB8
  refine Lib.hid ?_
  go_wp2_with fail
  have P0 := HP.out; have hB8 := H8.out; clear HP H8
  generalize w0.alloc (Obj.cells #[.bool true] 76) = W1 at *
  generalize w0.heap.size = b at *
  have K : ∀ W : World, Below W1.heap.size W1 W → PlayAt W b ∧ Below w.heap.size w W := fun W hW => ⟨P0.mono hW, Below.chain hB8 hW⟩
  have KK := Lib.hid K; clear K P0 hB8
  have hB0 := Below.refl W1.heap.size W1
  go_wp2_with (go_at_call 72; refine (K1.out _ _ (KK.out _ hB0).1 (KK.out _ hB0).2).mono ?_; rintro e w1 ⟨rfl, hb1⟩; refine Hid.out ?_)
  have hB1 := Below.chain hB0 hb1; clear hb1 hB0
  refine Lib.hid ?_
  go_wp2_with (go_at_call 72; refine (K2.out _ _ (KK.out _ hB1).1 (KK.out _ hB1).2).mono ?_; rintro e w2 ⟨rfl, hb2⟩; refine Hid.out ?_)
  have hB2 := Below.chain hB1 hb2; clear hb2 hB1
  refine Lib.hid ?_
  go_wp2_with (go_at_call 72; refine (K3.out _ _ (KK.out _ hB2).1 (KK.out _ hB2).2).mono ?_; rintro e w3 ⟨rfl, hb3⟩; refine Hid.out ?_)
  have hB3 := Below.chain hB2 hb3; clear hb3 hB2
  refine Lib.hid ?_
  go_wp2_with (go_at_call 72; refine (K4.out _ _ (KK.out _ hB3).1 (KK.out _ hB3).2).mono ?_; rintro e w4 ⟨rfl, hb4⟩; refine Hid.out ?_)
  have hB4 := Below.chain hB3 hb4; clear hb4 hB3
  refine Lib.hid ?_
  go_wp2_with (go_at_call 72; refine (K5.out _ _ (KK.out _ hB4).1 (KK.out _ hB4).2).mono ?_; rintro e w5 ⟨rfl, hb5⟩; refine Hid.out ?_)
  have hB5 := Below.chain hB4 hb5; clear hb5 hB4
  refine Lib.hid ?_
  go_wp2_with (go_at_call 72; refine (K6.out _ _ (KK.out _ hB5).1 (KK.out _ hB5).2).mono ?_; rintro e w6 ⟨rfl, hb6⟩; refine Hid.out ?_)
  have hB6 := Below.chain hB5 hb6; clear hb6 hB5
  refine Lib.hid ?_
  go_wp2_with (go_at_call 72; refine (K7.out _ _ (KK.out _ hB6).1 (KK.out _ hB6).2).mono ?_; rintro e w7 ⟨rfl, hb7⟩; refine Hid.out ?_)
  have hB7 := Below.chain hB6 hb7; clear hb7 hB6
  refine Lib.hid ?_
  go_wp2_with (go_at_call 73; refine (K8.out _ _ (KK.out _ hB7).1 (KK.out _ hB7).2).mono ?_; rintro e w8 ⟨rfl, hb8⟩; refine Hid.out ?_)
  have hB8 := Below.chain hB7 hb8; clear hb8 hB7
  refine Lib.hid ?_
  go_wp2_with (go_at_call 74; refine (K9.out _ _ (KK.out _ hB8).1 (KK.out _ hB8).2).mono ?_; rintro e w9 ⟨rfl, hb9⟩; refine Hid.out ?_)
  have hB9 := Below.chain hB8 hb9; clear hb9 hB8
  refine Lib.hid ?_
  go_wp2_with (go_at_call 74; refine (K10.out _ _ (KK.out _ hB9).1 (KK.out _ hB9).2).mono ?_; rintro e w10 ⟨rfl, hb10⟩; refine Hid.out ?_)
  have hB10 := Below.chain hB9 hb10; clear hb10 hB9
  refine Lib.hid ?_
  go_wp2_with (go_at_call 74; refine (K11.out _ _ (KK.out _ hB10).1 (KK.out _ hB10).2).mono ?_; rintro e w11 ⟨rfl, hb11⟩; refine Hid.out ?_)
  have hB11 := Below.chain hB10 hb11; clear hb11 hB10
  refine Lib.hid ?_
  go_wp2_with (go_at_call 74; refine (K12.out _ _ (KK.out _ hB11).1 (KK.out _ hB11).2).mono ?_; rintro e w12 ⟨rfl, hb12⟩; refine Hid.out ?_)
  have hB12 := Below.chain hB11 hb12; clear hb12 hB11
  refine Lib.hid ?_
  go_wp2_with (go_at_call 74; refine (K13.out _ _ (KK.out _ hB12).1 (KK.out _ hB12).2).mono ?_; rintro e w13 ⟨rfl, hb13⟩; refine Hid.out ?_)
  have hB13 := Below.chain hB12 hb13; clear hb13 hB12
  refine Lib.hid ?_
  go_wp2_with (go_at_call 74; refine (K14.out _ _ (KK.out _ hB13).1 (KK.out _ hB13).2).mono ?_; rintro e w14 ⟨rfl, hb14⟩; refine Hid.out ?_)
  have hB14 := Below.chain hB13 hb14; clear hb14 hB13
  refine Lib.hid ?_
  go_wp2_with (go_at_call 72; refine (K15.out _ _ (KK.out _ hB14).1 (KK.out _ hB14).2).mono ?_; rintro e w15 ⟨rfl, hb15⟩; refine Hid.out ?_)
  have hB15 := Below.chain hB14 hb15; clear hb15 hB14
  refine Lib.hid ?_
  go_wp2_with (go_at_call 74; refine (K16.out _ _ (KK.out _ hB15).1 (KK.out _ hB15).2).mono ?_; rintro e w16 ⟨rfl, hb16⟩; refine Hid.out ?_)
  have hB16 := Below.chain hB15 hb16; clear hb16 hB15
  refine Lib.hid ?_
  go_wp2_with (go_at_call 74; refine (K17.out _ _ (KK.out _ hB16).1 (KK.out _ hB16).2).mono ?_; rintro e w17 ⟨rfl, hb17⟩; refine Hid.out ?_)
  have hB17 := Below.chain hB16 hb17; clear hb17 hB16
  refine Lib.hid ?_
  go_wp2_with (go_at_call 74; refine (K18.out _ _ (KK.out _ hB17).1 (KK.out _ hB17).2).mono ?_; rintro e w18 ⟨rfl, hb18⟩; refine Hid.out ?_)
  have hB18 := Below.chain hB17 hb18; clear hb18 hB17
  refine Lib.hid ?_
  go_wp2_with (go_at_call 72; refine (K19.out _ _ (KK.out _ hB18).1 (KK.out _ hB18).2).mono ?_; rintro e w19 ⟨rfl, hb19⟩; refine Hid.out ?_)
  have hB19 := Below.chain hB18 hb19; clear hb19 hB18
  refine Lib.hid ?_
  go_wp2_with (go_at_call 76; refine (K24.out _ _ (KK.out _ hB19).1 (KK.out _ hB19).2).mono ?_; rintro e w20 ⟨rfl, hb20⟩; refine Hid.out ?_)
  have hB20 := Below.chain hB19 hb20; clear hb20 hB19
  refine Lib.hid ?_
  go_wp2_with (go_at_call 76; refine (K25.out _ _ (KK.out _ hB20).1 (KK.out _ hB20).2).mono ?_; rintro e w21 ⟨rfl, hb21⟩; refine Hid.out ?_)
  have hB21 := Below.chain hB20 hb21; clear hb21 hB20
  refine Lib.hid ?_
  go_wp2_with (go_at_call 72; refine (K26.out _ _ (KK.out _ hB21).1 (KK.out _ hB21).2).mono ?_; rintro e w22 ⟨rfl, hb22⟩; refine Hid.out ?_)
  have hB22 := Below.chain hB21 hb22; clear hb22 hB21
  refine Lib.hid ?_
  go_wp2_with (go_at_call 72; refine (K27.out _ _ (KK.out _ hB22).1 (KK.out _ hB22).2).mono ?_; rintro e w23 ⟨rfl, hb23⟩; refine Hid.out ?_)
  have hB23 := Below.chain hB22 hb23; clear hb23 hB22
  refine Lib.hid ?_
  go_wp2_with (go_at_call 76; refine (K28.out _ _ (KK.out _ hB23).1 (KK.out _ hB23).2).mono ?_; rintro e w24 ⟨rfl, hb24⟩; refine Hid.out ?_)
  have hB24 := Below.chain hB23 hb24; clear hb24 hB23
  refine Lib.hid ?_
  go_wp2_with (go_at_call 74; refine (K29.out _ _ (KK.out _ hB24).1 (KK.out _ hB24).2).mono ?_; rintro e w25 ⟨rfl, hb25⟩; refine Hid.out ?_)
  have hB25 := Below.chain hB24 hb25; clear hb25 hB24
  refine Lib.hid ?_
  go_wp2_with (go_at_call 74; refine (K30.out _ _ (KK.out _ hB25).1 (KK.out _ hB25).2).mono ?_; rintro e w26 ⟨rfl, hb26⟩; refine Hid.out ?_)
  have hB26 := Below.chain hB25 hb26; clear hb26 hB25
  refine Lib.hid ?_
  go_wp2_with (go_at_call 76; refine (K31.out _ _ (KK.out _ hB26).1 (KK.out _ hB26).2).mono ?_; rintro e w27 ⟨rfl, hb27⟩; refine Hid.out ?_)
  have hB27 := Below.chain hB26 hb27; clear hb27 hB26
  refine Lib.hid ?_
  go_wp2_with (go_at_call 76; refine (K32.out _ _ (KK.out _ hB27).1 (KK.out _ hB27).2).mono ?_; rintro e w28 ⟨rfl, hb28⟩; refine Hid.out ?_)
  have hB28 := Below.chain hB27 hb28; clear hb28 hB27
  refine Lib.hid ?_
  have PL := (KK.out _ hB28).1
  have c0 := PL.cell; have f0 := PL.fr; have l0 := PL.lt; clear PL
  go_wp2_with (go_at_call 59; refine (KN.out _ (KK.out _ hB28).2).mono ?_; rintro e w30 ⟨rfl, hb30⟩; refine Hid.out ?_)
  have hB30 := Below.chain hB28 hb30; clear hb30 hB28
  refine Lib.hid ?_
  go_wp2
  refine bodyPost_ret (v := .bool true) (by simp [results, Tryz.results15, go_sem]) rfl ?_
  exact ⟨rfl, (KK.out _ hB30).2⟩

set_option maxRecDepth 20000 in
set_option maxHeartbeats 16000000 in
theorem trat_zp (s t u r0 r1 r2 r3 r4 r5 r6 r7 r8 : ByteArray) (g : Int) (w : World) (hg0 : -1 ≤ g) (hg1 : g ≤ 1) (hz0 : (s.toList == [48]) = true) (he : (s.toList == t.toList) = false)
    (C0 : Calls Tryz.prog 71 #[.slice (some ⟨w.heap.size, 0, none⟩) 3 3] (w.alloc (Obj.cells #[.string s, .string t, .string u] 35)) (Bret (.bool true) (w.alloc (Obj.cells #[.string s, .string t, .string u] 35))))
    (C1 : ∀ (b : Nat) (W : World), PlayAt W b → Below w.heap.size w W → Calls Tryz.prog 72 #[(.pointer (some ⟨b, 0, none⟩)), .string s, .string t] W (Bret (.string r3) W))
    (C2 : ∀ (b : Nat) (W : World), PlayAt W b → Below w.heap.size w W → Calls Tryz.prog 72 #[(.pointer (some ⟨b, 0, none⟩)), .string r3, .string u] W (Bret (.string r1) W))
    (C3 : ∀ (b : Nat) (W : World), PlayAt W b → Below w.heap.size w W → Calls Tryz.prog 72 #[(.pointer (some ⟨b, 0, none⟩)), .string t, .string u] W (Bret (.string r4) W))
    (C4 : ∀ (b : Nat) (W : World), PlayAt W b → Below w.heap.size w W → Calls Tryz.prog 72 #[(.pointer (some ⟨b, 0, none⟩)), .string s, .string r4] W (Bret (.string r1) W))
    (C5 : ∀ (b : Nat) (W : World), PlayAt W b → Below w.heap.size w W → Calls Tryz.prog 72 #[(.pointer (some ⟨b, 0, none⟩)), .string s, .string t] W (Bret (.string r3) W))
    (C6 : ∀ (b : Nat) (W : World), PlayAt W b → Below w.heap.size w W → Calls Tryz.prog 72 #[(.pointer (some ⟨b, 0, none⟩)), .string t, .string s] W (Bret (.string r3) W))
    (C7 : ∀ (b : Nat) (W : World), PlayAt W b → Below w.heap.size w W → Calls Tryz.prog 72 #[(.pointer (some ⟨b, 0, none⟩)), .string s, .string t] W (Bret (.string r3) W))
    (C8 : ∀ (b : Nat) (W : World), PlayAt W b → Below w.heap.size w W → Calls Tryz.prog 73 #[(.pointer (some ⟨b, 0, none⟩)), .string r3, .string t] W (Bret (.string s) W))
    (C9 : ∀ (b : Nat) (W : World), PlayAt W b → Below w.heap.size w W → Calls Tryz.prog 74 #[(.pointer (some ⟨b, 0, none⟩)), .string s, .string t] W (Bret (.string r6) W))
    (C10 : ∀ (b : Nat) (W : World), PlayAt W b → Below w.heap.size w W → Calls Tryz.prog 74 #[(.pointer (some ⟨b, 0, none⟩)), .string t, .string s] W (Bret (.string r6) W))
    (C11 : ∀ (b : Nat) (W : World), PlayAt W b → Below w.heap.size w W → Calls Tryz.prog 74 #[(.pointer (some ⟨b, 0, none⟩)), .string s, .string t] W (Bret (.string r6) W))
    (C12 : ∀ (b : Nat) (W : World), PlayAt W b → Below w.heap.size w W → Calls Tryz.prog 74 #[(.pointer (some ⟨b, 0, none⟩)), .string r6, .string u] W (Bret (.string r2) W))
    (C13 : ∀ (b : Nat) (W : World), PlayAt W b → Below w.heap.size w W → Calls Tryz.prog 74 #[(.pointer (some ⟨b, 0, none⟩)), .string t, .string u] W (Bret (.string r7) W))
    (C14 : ∀ (b : Nat) (W : World), PlayAt W b → Below w.heap.size w W → Calls Tryz.prog 74 #[(.pointer (some ⟨b, 0, none⟩)), .string s, .string r7] W (Bret (.string r2) W))
    (C15 : ∀ (b : Nat) (W : World), PlayAt W b → Below w.heap.size w W → Calls Tryz.prog 72 #[(.pointer (some ⟨b, 0, none⟩)), .string t, .string u] W (Bret (.string r4) W))
    (C16 : ∀ (b : Nat) (W : World), PlayAt W b → Below w.heap.size w W → Calls Tryz.prog 74 #[(.pointer (some ⟨b, 0, none⟩)), .string s, .string r4] W (Bret (.string r0) W))
    (C17 : ∀ (b : Nat) (W : World), PlayAt W b → Below w.heap.size w W → Calls Tryz.prog 74 #[(.pointer (some ⟨b, 0, none⟩)), .string s, .string t] W (Bret (.string r6) W))
    (C18 : ∀ (b : Nat) (W : World), PlayAt W b → Below w.heap.size w W → Calls Tryz.prog 74 #[(.pointer (some ⟨b, 0, none⟩)), .string s, .string u] W (Bret (.string r8) W))
    (C19 : ∀ (b : Nat) (W : World), PlayAt W b → Below w.heap.size w W → Calls Tryz.prog 72 #[(.pointer (some ⟨b, 0, none⟩)), .string r6, .string r8] W (Bret (.string r0) W))
    (C24 : ∀ (b : Nat) (W : World), PlayAt W b → Below w.heap.size w W → Calls Tryz.prog 76 #[(.pointer (some ⟨b, 0, none⟩)), .string s, .string t] W (Bret (.int .i64 (1)) W))
    (C25 : ∀ (b : Nat) (W : World), PlayAt W b → Below w.heap.size w W → Calls Tryz.prog 76 #[(.pointer (some ⟨b, 0, none⟩)), .string t, .string s] W (Bret (.int .i64 (-1)) W))
    (C26 : ∀ (b : Nat) (W : World), PlayAt W b → Below w.heap.size w W → Calls Tryz.prog 72 #[(.pointer (some ⟨b, 0, none⟩)), .string s, .string u] W (Bret (.string r5) W))
    (C27 : ∀ (b : Nat) (W : World), PlayAt W b → Below w.heap.size w W → Calls Tryz.prog 72 #[(.pointer (some ⟨b, 0, none⟩)), .string t, .string u] W (Bret (.string r4) W))
    (C28 : ∀ (b : Nat) (W : World), PlayAt W b → Below w.heap.size w W → Calls Tryz.prog 76 #[(.pointer (some ⟨b, 0, none⟩)), .string r5, .string r4] W (Bret (.int .i64 (1)) W))
    (C29 : ∀ (b : Nat) (W : World), PlayAt W b → Below w.heap.size w W → Calls Tryz.prog 74 #[(.pointer (some ⟨b, 0, none⟩)), .string s, .string u] W (Bret (.string r8) W))
    (C30 : ∀ (b : Nat) (W : World), PlayAt W b → Below w.heap.size w W → Calls Tryz.prog 74 #[(.pointer (some ⟨b, 0, none⟩)), .string t, .string u] W (Bret (.string r7) W))
    (C31 : ∀ (b : Nat) (W : World), PlayAt W b → Below w.heap.size w W → Calls Tryz.prog 76 #[(.pointer (some ⟨b, 0, none⟩)), .string r8, .string r7] W (Bret (.int .i64 (g)) W))
    (C32 : ∀ (b : Nat) (W : World), PlayAt W b → Below w.heap.size w W → Calls Tryz.prog 76 #[(.pointer (some ⟨b, 0, none⟩)), .string u, .string ⟨#[48]⟩] W (Bret (.int .i64 (g)) W))
    (CN : ∀ W : World, Below w.heap.size w W → Calls Tryz.prog 59 #[] W (Bret (.bool true) W)) :
    Calls Tryz.prog 15 #[.string s, .string t, .string u] w (Bret (.bool true) w) := by
  have B0 : Below w.heap.size w (w.alloc (Obj.cells #[.string s, .string t, .string u] 35)) := (Below.refl _ _).alloc (Nat.le_refl _) _
  have K0 := Lib.hid C0; have K1 := Lib.hid C1; have K2 := Lib.hid C2; have K3 := Lib.hid C3; have K4 := Lib.hid C4; have K5 := Lib.hid C5; have K6 := Lib.hid C6; have K7 := Lib.hid C7; have K8 := Lib.hid C8; have K9 := Lib.hid C9; have K10 := Lib.hid C10; have K11 := Lib.hid C11; have K12 := Lib.hid C12; have K13 := Lib.hid C13; have K14 := Lib.hid C14; have K15 := Lib.hid C15; have K16 := Lib.hid C16; have K17 := Lib.hid C17; have K18 := Lib.hid C18; have K19 := Lib.hid C19; have K24 := Lib.hid C24; have K25 := Lib.hid C25; have K26 := Lib.hid C26; have K27 := Lib.hid C27; have K28 := Lib.hid C28; have K29 := Lib.hid C29; have K30 := Lib.hid C30; have K31 := Lib.hid C31; have K32 := Lib.hid C32; have KN := Lib.hid CN; have HB0 := Lib.hid B0
  clear C0 C1 C2 C3 C4 C5 C6 C7 C8 C9 C10 C11 C12 C13 C14 C15 C16 C17 C18 C19 C24 C25 C26 C27 C28 C29 C30 C31 C32 CN B0
  go_enter Tryz.func15, Tryz.ntmps15
  go_wp2_with (go_at_call 71; refine K0.out.mono ?_; rintro e w0 ⟨rfl, hb0⟩; refine Hid.out ?_)
  have hB9 := Below.chain HB0.out hb0; clear hb0
  have P0 := play_new w0 76
  have A0 : Below w0.heap.size w0 (w0.alloc (Obj.cells #[.bool true] 76)) := (Below.refl _ _).alloc (Nat.le_refl _) _
  have hB8 := Below.chain hB9 A0; clear hB9 A0
  have HP := Lib.hid P0; have H8 := Lib.hid hB8; clear P0 hB8
  refine Lib.hid ?_
  go_wp2_with fail
  have P0 := HP.out; have hB8 := H8.out; clear HP H8
  generalize w0.alloc (Obj.cells #[.bool true] 76) = W1 at *
  generalize w0.heap.size = b at *
  have K : ∀ W : World, Below W1.heap.size W1 W → PlayAt W b ∧ Below w.heap.size w W := fun W hW => ⟨P0.mono hW, Below.chain hB8 hW⟩
  have KK := Lib.hid K; clear K P0 hB8
  have hB0 := Below.refl W1.heap.size W1
  go_wp2_with (go_at_call 72; refine (K1.out _ _ (KK.out _ hB0).1 (KK.out _ hB0).2).mono ?_; rintro e w1 ⟨rfl, hb1⟩; refine Hid.out ?_)
  have hB1 := Below.chain hB0 hb1; clear hb1 hB0
  refine Lib.hid ?_
  go_wp2_with (go_at_call 72; refine (K2.out _ _ (KK.out _ hB1).1 (KK.out _ hB1).2).mono ?_; rintro e w2 ⟨rfl, hb2⟩; refine Hid.out ?_)
  have hB2 := Below.chain hB1 hb2; clear hb2 hB1
  refine Lib.hid ?_
  go_wp2_with (go_at_call 72; refine (K3.out _ _ (KK.out _ hB2).1 (KK.out _ hB2).2).mono ?_; rintro e w3 ⟨rfl, hb3⟩; refine Hid.out ?_)
  have hB3 := Below.chain hB2 hb3; clear hb3 hB2
  refine Lib.hid ?_
  go_wp2_with (go_at_call 72; refine (K4.out _ _ (KK.out _ hB3).1 (KK.out _ hB3).2).mono ?_; rintro e w4 ⟨rfl, hb4⟩; refine Hid.out ?_)
  have hB4 := Below.chain hB3 hb4; clear hb4 hB3
  refine Lib.hid ?_
  go_wp2_with (go_at_call 72; refine (K5.out _ _ (KK.out _ hB4).1 (KK.out _ hB4).2).mono ?_; rintro e w5 ⟨rfl, hb5⟩; refine Hid.out ?_)
  have hB5 := Below.chain hB4 hb5; clear hb5 hB4
  refine Lib.hid ?_
  go_wp2_with (go_at_call 72; refine (K6.out _ _ (KK.out _ hB5).1 (KK.out _ hB5).2).mono ?_; rintro e w6 ⟨rfl, hb6⟩; refine Hid.out ?_)
  have hB6 := Below.chain hB5 hb6; clear hb6 hB5
  refine Lib.hid ?_
  go_wp2_with (go_at_call 72; refine (K7.out _ _ (KK.out _ hB6).1 (KK.out _ hB6).2).mono ?_; rintro e w7 ⟨rfl, hb7⟩; refine Hid.out ?_)
  have hB7 := Below.chain hB6 hb7; clear hb7 hB6
  refine Lib.hid ?_
  go_wp2_with (go_at_call 73; refine (K8.out _ _ (KK.out _ hB7).1 (KK.out _ hB7).2).mono ?_; rintro e w8 ⟨rfl, hb8⟩; refine Hid.out ?_)
  have hB8 := Below.chain hB7 hb8; clear hb8 hB7
  refine Lib.hid ?_
  go_wp2_with (go_at_call 74; refine (K9.out _ _ (KK.out _ hB8).1 (KK.out _ hB8).2).mono ?_; rintro e w9 ⟨rfl, hb9⟩; refine Hid.out ?_)
  have hB9 := Below.chain hB8 hb9; clear hb9 hB8
  refine Lib.hid ?_
  go_wp2_with (go_at_call 74; refine (K10.out _ _ (KK.out _ hB9).1 (KK.out _ hB9).2).mono ?_; rintro e w10 ⟨rfl, hb10⟩; refine Hid.out ?_)
  have hB10 := Below.chain hB9 hb10; clear hb10 hB9
  refine Lib.hid ?_
  go_wp2_with (go_at_call 74; refine (K11.out _ _ (KK.out _ hB10).1 (KK.out _ hB10).2).mono ?_; rintro e w11 ⟨rfl, hb11⟩; refine Hid.out ?_)
  have hB11 := Below.chain hB10 hb11; clear hb11 hB10
  refine Lib.hid ?_
  go_wp2_with (go_at_call 74; refine (K12.out _ _ (KK.out _ hB11).1 (KK.out _ hB11).2).mono ?_; rintro e w12 ⟨rfl, hb12⟩; refine Hid.out ?_)
  have hB12 := Below.chain hB11 hb12; clear hb12 hB11
  refine Lib.hid ?_
  go_wp2_with (go_at_call 74; refine (K13.out _ _ (KK.out _ hB12).1 (KK.out _ hB12).2).mono ?_; rintro e w13 ⟨rfl, hb13⟩; refine Hid.out ?_)
  have hB13 := Below.chain hB12 hb13; clear hb13 hB12
  refine Lib.hid ?_
  go_wp2_with (go_at_call 74; refine (K14.out _ _ (KK.out _ hB13).1 (KK.out _ hB13).2).mono ?_; rintro e w14 ⟨rfl, hb14⟩; refine Hid.out ?_)
  have hB14 := Below.chain hB13 hb14; clear hb14 hB13
  refine Lib.hid ?_
  go_wp2_with (go_at_call 72; refine (K15.out _ _ (KK.out _ hB14).1 (KK.out _ hB14).2).mono ?_; rintro e w15 ⟨rfl, hb15⟩; refine Hid.out ?_)
  have hB15 := Below.chain hB14 hb15; clear hb15 hB14
  refine Lib.hid ?_
  go_wp2_with (go_at_call 74; refine (K16.out _ _ (KK.out _ hB15).1 (KK.out _ hB15).2).mono ?_; rintro e w16 ⟨rfl, hb16⟩; refine Hid.out ?_)
  have hB16 := Below.chain hB15 hb16; clear hb16 hB15
  refine Lib.hid ?_
  go_wp2_with (go_at_call 74; refine (K17.out _ _ (KK.out _ hB16).1 (KK.out _ hB16).2).mono ?_; rintro e w17 ⟨rfl, hb17⟩; refine Hid.out ?_)
  have hB17 := Below.chain hB16 hb17; clear hb17 hB16
  refine Lib.hid ?_
  go_wp2_with (go_at_call 74; refine (K18.out _ _ (KK.out _ hB17).1 (KK.out _ hB17).2).mono ?_; rintro e w18 ⟨rfl, hb18⟩; refine Hid.out ?_)
  have hB18 := Below.chain hB17 hb18; clear hb18 hB17
  refine Lib.hid ?_
  go_wp2_with (go_at_call 72; refine (K19.out _ _ (KK.out _ hB18).1 (KK.out _ hB18).2).mono ?_; rintro e w19 ⟨rfl, hb19⟩; refine Hid.out ?_)
  have hB19 := Below.chain hB18 hb19; clear hb19 hB18
  refine Lib.hid ?_
  go_wp2_with (go_at_call 76; refine (K24.out _ _ (KK.out _ hB19).1 (KK.out _ hB19).2).mono ?_; rintro e w20 ⟨rfl, hb20⟩; refine Hid.out ?_)
  have hB20 := Below.chain hB19 hb20; clear hb20 hB19
  refine Lib.hid ?_
  go_wp2_with (go_at_call 76; refine (K25.out _ _ (KK.out _ hB20).1 (KK.out _ hB20).2).mono ?_; rintro e w21 ⟨rfl, hb21⟩; refine Hid.out ?_)
  have hB21 := Below.chain hB20 hb21; clear hb21 hB20
  refine Lib.hid ?_
  go_wp2_with (go_at_call 72; refine (K26.out _ _ (KK.out _ hB21).1 (KK.out _ hB21).2).mono ?_; rintro e w22 ⟨rfl, hb22⟩; refine Hid.out ?_)
  have hB22 := Below.chain hB21 hb22; clear hb22 hB21
  refine Lib.hid ?_
  go_wp2_with (go_at_call 72; refine (K27.out _ _ (KK.out _ hB22).1 (KK.out _ hB22).2).mono ?_; rintro e w23 ⟨rfl, hb23⟩; refine Hid.out ?_)
  have hB23 := Below.chain hB22 hb23; clear hb23 hB22
  refine Lib.hid ?_
  go_wp2_with (go_at_call 76; refine (K28.out _ _ (KK.out _ hB23).1 (KK.out _ hB23).2).mono ?_; rintro e w24 ⟨rfl, hb24⟩; refine Hid.out ?_)
  have hB24 := Below.chain hB23 hb24; clear hb24 hB23
  refine Lib.hid ?_
  go_wp2_with (go_at_call 74; refine (K29.out _ _ (KK.out _ hB24).1 (KK.out _ hB24).2).mono ?_; rintro e w25 ⟨rfl, hb25⟩; refine Hid.out ?_)
  have hB25 := Below.chain hB24 hb25; clear hb25 hB24
  refine Lib.hid ?_
  go_wp2_with (go_at_call 74; refine (K30.out _ _ (KK.out _ hB25).1 (KK.out _ hB25).2).mono ?_; rintro e w26 ⟨rfl, hb26⟩; refine Hid.out ?_)
  have hB26 := Below.chain hB25 hb26; clear hb26 hB25
  refine Lib.hid ?_
  go_wp2_with (go_at_call 76; refine (K31.out _ _ (KK.out _ hB26).1 (KK.out _ hB26).2).mono ?_; rintro e w27 ⟨rfl, hb27⟩; refine Hid.out ?_)
  have hB27 := Below.chain hB26 hb27; clear hb27 hB26
  refine Lib.hid ?_
  go_wp2_with (go_at_call 76; refine (K32.out _ _ (KK.out _ hB27).1 (KK.out _ hB27).2).mono ?_; rintro e w28 ⟨rfl, hb28⟩; refine Hid.out ?_)
  have hB28 := Below.chain hB27 hb28; clear hb28 hB27
  refine Lib.hid ?_
  have PL := (KK.out _ hB28).1
  have c0 := PL.cell; have f0 := PL.fr; have l0 := PL.lt; clear PL
  go_wp2_with (go_at_call 59; refine (KN.out _ (KK.out _ hB28).2).mono ?_; rintro e w30 ⟨rfl, hb30⟩; refine Hid.out ?_)
  have hB30 := Below.chain hB28 hb30; clear hb30 hB28
  refine Lib.hid ?_
  go_wp2
  refine bodyPost_ret (v := .bool true) (by simp [results, Tryz.results15, go_sem]) rfl ?_
  exact ⟨rfl, (KK.out _ hB30).2⟩

set_option maxRecDepth 20000 in
set_option maxHeartbeats 4000000 in
theorem trat_awake (s t u : ByteArray) (w : World)
    (C0 : Calls Tryz.prog 71 #[.slice (some ⟨w.heap.size, 0, none⟩) 3 3] (w.alloc (Obj.cells #[.string s, .string t, .string u] 35)) (Bret (.bool false) (w.alloc (Obj.cells #[.string s, .string t, .string u] 35))))
    (htab : Lib.TabIs Tryz.prog w "internal/strconv.uint64pow10" .u64 Lib.pow10Tab) :
    Calls Tryz.prog 15 #[.string s, .string t, .string u] w (Bret (.bool true) w) := by
  have hT := Lib.tabBelow_of_tabIs htab
  have C1 : ∀ W : World, Below w.heap.size w W → Calls Tryz.prog 59 #[] W (Bret (.bool true) W) := fun W hW => playNumbers_any W (hT.on hW).here
  have B0 : Below w.heap.size w (w.alloc (Obj.cells #[.string s, .string t, .string u] 35)) := (Below.refl _ _).alloc (Nat.le_refl _) _
  have K0 := Lib.hid C0; have K1 := Lib.hid C1; have HB0 := Lib.hid B0
  clear C0 C1 B0 hT htab
  go_enter Tryz.func15, Tryz.ntmps15
  go_wp2_with (go_at_call 71; refine K0.out.mono ?_; rintro e w0 ⟨rfl, hb0⟩; refine Hid.out ?_)
  have hB0 := Below.chain HB0.out hb0; clear hb0
  refine Lib.hid ?_
  go_wp2_with (go_at_call 59; refine (K1.out _ hB0).mono ?_; rintro e w1 ⟨rfl, hb1⟩; refine Hid.out ?_)
  have hB1 := Below.chain hB0 hb1; clear hb1 hB0
  refine Lib.hid ?_
  go_wp2
  refine bodyPost_ret (v := .bool true) (by simp [results, Tryz.results15, go_sem]) rfl ?_
  exact ⟨rfl, hB1⟩

theorem trat_main (s t u : ByteArray) (p q z : Rat) (w : World) (hs : RStr s p) (ht : RStr t q) (hu : RStr u z) (hp : RZ 250 p) (hq : RZ 250 q) (hz : RZ 250 z)
    (C0 : Calls Tryz.prog 71 #[.slice (some ⟨w.heap.size, 0, none⟩) 3 3] (w.alloc (Obj.cells #[.string s, .string t, .string u] 35)) (Bret (.bool true) (w.alloc (Obj.cells #[.string s, .string t, .string u] 35))))
    (htab : Lib.TabIs Tryz.prog w "internal/strconv.uint64pow10" .u64 Lib.pow10Tab) :
    Calls Tryz.prog 15 #[.string s, .string t, .string u] w (Bret (.bool true) w) := by
  have hT := Lib.tabBelow_of_tabIs htab
  have zpq := hp.add hq; have zqz := hq.add hz; have zpz := hp.add hz
  have q1 := rstrZ zpq (by decide); have q2 := rstrZ zqz (by decide); have q3 := rstrZ zpz (by decide)
  have m1 := rstrZ (hp.mul hq) (by decide); have m2 := rstrZ (hq.mul hz) (by decide); have m3 := rstrZ (hp.mul hz) (by decide)
  have CN : ∀ W : World, Below w.heap.size w W → Calls Tryz.prog 59 #[] W (Bret (.bool true) W) := fun W hW => playNumbers_any W (hT.on hW).here
  obtain ⟨g0, g1⟩ := ordQ_range z 0
  have C1 : ∀ (b : Nat) (W : World), PlayAt W b → Below w.heap.size w W → Calls Tryz.prog 72 #[(.pointer (some ⟨b, 0, none⟩)), .string s, .string t] W (Bret (.string (str (ratL (p + q)))) W) := fun b W hP hW => by
    have := pRadd hs ht hp hq w htab (by decide) b W hP hW; exact this
  have C2 : ∀ (b : Nat) (W : World), PlayAt W b → Below w.heap.size w W → Calls Tryz.prog 72 #[(.pointer (some ⟨b, 0, none⟩)), .string (str (ratL (p + q))), .string u] W (Bret (.string (str (ratL (p + q + z)))) W) := fun b W hP hW => by
    have := pRadd q1 hu zpq hz w htab (by decide) b W hP hW; exact this
  have C3 : ∀ (b : Nat) (W : World), PlayAt W b → Below w.heap.size w W → Calls Tryz.prog 72 #[(.pointer (some ⟨b, 0, none⟩)), .string t, .string u] W (Bret (.string (str (ratL (q + z)))) W) := fun b W hP hW => by
    have := pRadd ht hu hq hz w htab (by decide) b W hP hW; exact this
  have C4 : ∀ (b : Nat) (W : World), PlayAt W b → Below w.heap.size w W → Calls Tryz.prog 72 #[(.pointer (some ⟨b, 0, none⟩)), .string s, .string (str (ratL (q + z)))] W (Bret (.string (str (ratL (p + q + z)))) W) := fun b W hP hW => by
    have := pRadd hs q2 hp zqz w htab (by decide) b W hP hW; rwa [← Rat.add_assoc p q z] at this
  have C5 : ∀ (b : Nat) (W : World), PlayAt W b → Below w.heap.size w W → Calls Tryz.prog 72 #[(.pointer (some ⟨b, 0, none⟩)), .string s, .string t] W (Bret (.string (str (ratL (p + q)))) W) := fun b W hP hW => by
    have := pRadd hs ht hp hq w htab (by decide) b W hP hW; exact this
  have C6 : ∀ (b : Nat) (W : World), PlayAt W b → Below w.heap.size w W → Calls Tryz.prog 72 #[(.pointer (some ⟨b, 0, none⟩)), .string t, .string s] W (Bret (.string (str (ratL (p + q)))) W) := fun b W hP hW => by
    have := pRadd ht hs hq hp w htab (by decide) b W hP hW; rwa [Rat.add_comm q p] at this
  have C7 : ∀ (b : Nat) (W : World), PlayAt W b → Below w.heap.size w W → Calls Tryz.prog 72 #[(.pointer (some ⟨b, 0, none⟩)), .string s, .string t] W (Bret (.string (str (ratL (p + q)))) W) := fun b W hP hW => by
    have := pRadd hs ht hp hq w htab (by decide) b W hP hW; exact this
  have C8 : ∀ (b : Nat) (W : World), PlayAt W b → Below w.heap.size w W → Calls Tryz.prog 73 #[(.pointer (some ⟨b, 0, none⟩)), .string (str (ratL (p + q))), .string t] W (Bret (.string s) W) := fun b W hP hW => by
    have := pRsub q1 ht zpq hq w htab (by decide) b W hP hW; rwa [Rat.add_sub_cancel, hs.lit] at this
  have C9 : ∀ (b : Nat) (W : World), PlayAt W b → Below w.heap.size w W → Calls Tryz.prog 74 #[(.pointer (some ⟨b, 0, none⟩)), .string s, .string t] W (Bret (.string (str (ratL (p * q)))) W) := fun b W hP hW => by
    have := pRmul hs ht hp hq w htab (by decide) b W hP hW; exact this
  have C10 : ∀ (b : Nat) (W : World), PlayAt W b → Below w.heap.size w W → Calls Tryz.prog 74 #[(.pointer (some ⟨b, 0, none⟩)), .string t, .string s] W (Bret (.string (str (ratL (p * q)))) W) := fun b W hP hW => by
    have := pRmul ht hs hq hp w htab (by decide) b W hP hW; rwa [Rat.mul_comm q p] at this
  have C11 : ∀ (b : Nat) (W : World), PlayAt W b → Below w.heap.size w W → Calls Tryz.prog 74 #[(.pointer (some ⟨b, 0, none⟩)), .string s, .string t] W (Bret (.string (str (ratL (p * q)))) W) := fun b W hP hW => by
    have := pRmul hs ht hp hq w htab (by decide) b W hP hW; exact this
  have C12 : ∀ (b : Nat) (W : World), PlayAt W b → Below w.heap.size w W → Calls Tryz.prog 74 #[(.pointer (some ⟨b, 0, none⟩)), .string (str (ratL (p * q))), .string u] W (Bret (.string (str (ratL (p * q * z)))) W) := fun b W hP hW => by
    have := pRmul m1 hu (hp.mul hq) hz w htab (by decide) b W hP hW; exact this
  have C13 : ∀ (b : Nat) (W : World), PlayAt W b → Below w.heap.size w W → Calls Tryz.prog 74 #[(.pointer (some ⟨b, 0, none⟩)), .string t, .string u] W (Bret (.string (str (ratL (q * z)))) W) := fun b W hP hW => by
    have := pRmul ht hu hq hz w htab (by decide) b W hP hW; exact this
  have C14 : ∀ (b : Nat) (W : World), PlayAt W b → Below w.heap.size w W → Calls Tryz.prog 74 #[(.pointer (some ⟨b, 0, none⟩)), .string s, .string (str (ratL (q * z)))] W (Bret (.string (str (ratL (p * q * z)))) W) := fun b W hP hW => by
    have := pRmul hs m2 hp (hq.mul hz) w htab (by decide) b W hP hW; rwa [← Rat.mul_assoc p q z] at this
  have C15 : ∀ (b : Nat) (W : World), PlayAt W b → Below w.heap.size w W → Calls Tryz.prog 72 #[(.pointer (some ⟨b, 0, none⟩)), .string t, .string u] W (Bret (.string (str (ratL (q + z)))) W) := fun b W hP hW => by
    have := pRadd ht hu hq hz w htab (by decide) b W hP hW; exact this
  have C16 : ∀ (b : Nat) (W : World), PlayAt W b → Below w.heap.size w W → Calls Tryz.prog 74 #[(.pointer (some ⟨b, 0, none⟩)), .string s, .string (str (ratL (q + z)))] W (Bret (.string (str (ratL (p * (q + z))))) W) := fun b W hP hW => by
    have := pRmul hs q2 hp zqz w htab (by decide) b W hP hW; exact this
  have C17 : ∀ (b : Nat) (W : World), PlayAt W b → Below w.heap.size w W → Calls Tryz.prog 74 #[(.pointer (some ⟨b, 0, none⟩)), .string s, .string t] W (Bret (.string (str (ratL (p * q)))) W) := fun b W hP hW => by
    have := pRmul hs ht hp hq w htab (by decide) b W hP hW; exact this
  have C18 : ∀ (b : Nat) (W : World), PlayAt W b → Below w.heap.size w W → Calls Tryz.prog 74 #[(.pointer (some ⟨b, 0, none⟩)), .string s, .string u] W (Bret (.string (str (ratL (p * z)))) W) := fun b W hP hW => by
    have := pRmul hs hu hp hz w htab (by decide) b W hP hW; exact this
  have C19 : ∀ (b : Nat) (W : World), PlayAt W b → Below w.heap.size w W → Calls Tryz.prog 72 #[(.pointer (some ⟨b, 0, none⟩)), .string (str (ratL (p * q))), .string (str (ratL (p * z)))] W (Bret (.string (str (ratL (p * (q + z))))) W) := fun b W hP hW => by
    have := pRadd m1 m3 (hp.mul hq) (hp.mul hz) w htab (by decide) b W hP hW; rwa [← Rat.mul_add p q z] at this
  have C24 : ∀ (b : Nat) (W : World), PlayAt W b → Below w.heap.size w W → Calls Tryz.prog 76 #[(.pointer (some ⟨b, 0, none⟩)), .string s, .string t] W (Bret (.int .i64 (ordQ p q)) W) := fun b W hP hW => by
    have := pRorder hs ht hp hq w htab (by decide) b W hP hW; exact this
  have C25 : ∀ (b : Nat) (W : World), PlayAt W b → Below w.heap.size w W → Calls Tryz.prog 76 #[(.pointer (some ⟨b, 0, none⟩)), .string t, .string s] W (Bret (.int .i64 (-ordQ p q)) W) := fun b W hP hW => by
    have := pRorder ht hs hq hp w htab (by decide) b W hP hW; rwa [ordQ_swap p q] at this
  have C26 : ∀ (b : Nat) (W : World), PlayAt W b → Below w.heap.size w W → Calls Tryz.prog 72 #[(.pointer (some ⟨b, 0, none⟩)), .string s, .string u] W (Bret (.string (str (ratL (p + z)))) W) := fun b W hP hW => by
    have := pRadd hs hu hp hz w htab (by decide) b W hP hW; exact this
  have C27 : ∀ (b : Nat) (W : World), PlayAt W b → Below w.heap.size w W → Calls Tryz.prog 72 #[(.pointer (some ⟨b, 0, none⟩)), .string t, .string u] W (Bret (.string (str (ratL (q + z)))) W) := fun b W hP hW => by
    have := pRadd ht hu hq hz w htab (by decide) b W hP hW; exact this
  have C28 : ∀ (b : Nat) (W : World), PlayAt W b → Below w.heap.size w W → Calls Tryz.prog 76 #[(.pointer (some ⟨b, 0, none⟩)), .string (str (ratL (p + z))), .string (str (ratL (q + z)))] W (Bret (.int .i64 (ordQ p q)) W) := fun b W hP hW => by
    have := pRorder q3 q2 zpz zqz w htab (by decide) b W hP hW; rwa [ordQ_add] at this
  have C29 : ∀ (b : Nat) (W : World), PlayAt W b → Below w.heap.size w W → Calls Tryz.prog 74 #[(.pointer (some ⟨b, 0, none⟩)), .string s, .string u] W (Bret (.string (str (ratL (p * z)))) W) := fun b W hP hW => by
    have := pRmul hs hu hp hz w htab (by decide) b W hP hW; exact this
  have C30 : ∀ (b : Nat) (W : World), PlayAt W b → Below w.heap.size w W → Calls Tryz.prog 74 #[(.pointer (some ⟨b, 0, none⟩)), .string t, .string u] W (Bret (.string (str (ratL (q * z)))) W) := fun b W hP hW => by
    have := pRmul ht hu hq hz w htab (by decide) b W hP hW; exact this
  have C31 : ∀ (b : Nat) (W : World), PlayAt W b → Below w.heap.size w W → Calls Tryz.prog 76 #[(.pointer (some ⟨b, 0, none⟩)), .string (str (ratL (p * z))), .string (str (ratL (q * z)))] W (Bret (.int .i64 (ordQ p q * ordQ z 0)) W) := fun b W hP hW => by
    have := pRorder m3 m2 (hp.mul hz) (hq.mul hz) w htab (by decide) b W hP hW; rwa [ordQ_mul] at this
  have C32 : ∀ (b : Nat) (W : World), PlayAt W b → Below w.heap.size w W → Calls Tryz.prog 76 #[(.pointer (some ⟨b, 0, none⟩)), .string u, .string ⟨#[48]⟩] W (Bret (.int .i64 (ordQ z 0)) W) := fun b W hP hW => by
    have := pRorder hu zero_rstr hz zzero w htab (by decide) b W hP hW; exact this
  by_cases h0 : p = 0
  · have hz0 : (s.toList == [48]) = true := by rw [h0] at hs; rw [rstr_zero hs, ByteArray.toList_eq]; decide
    rcases ordQ_cases p q with ⟨e, k⟩ | ⟨e, k⟩ | ⟨e, k⟩
    · rw [e] at C24 C25 C28 C31
      rw [show (-1 : Int) * ordQ z 0 = -ordQ z 0 by omega] at C31
      exact trat_zm s t u _ _ _ _ _ _ _ _ _ _ w g0 g1 hz0 (neq_lists (rstr_differ hs ht (Rat.ne_of_lt k))) C0 C1 C2 C3 C4 C5 C6 C7 C8 C9 C10 C11 C12 C13 C14 C15 C16 C17 C18 C19 C24 C25 C26 C27 C28 C29 C30 C31 C32 CN
    · rw [e] at C24 C25 C28 C31
      rw [Int.zero_mul] at C31
      exact trat_z0 s t u _ _ _ _ _ _ _ _ _ _ w g0 g1 hz0 (eq_lists (by rw [← hs.lit, k, ht.lit])) C0 C1 C2 C3 C4 C5 C6 C7 C8 C9 C10 C11 C12 C13 C14 C15 C16 C17 C18 C19 C24 C25 C26 C27 C28 C29 C30 C31 C32 CN
    · rw [e] at C24 C25 C28 C31
      rw [Int.one_mul] at C31
      exact trat_zp s t u _ _ _ _ _ _ _ _ _ _ w g0 g1 hz0 (neq_lists (rstr_differ hs ht (Rat.ne_of_gt k))) C0 C1 C2 C3 C4 C5 C6 C7 C8 C9 C10 C11 C12 C13 C14 C15 C16 C17 C18 C19 C24 C25 C26 C27 C28 C29 C30 C31 C32 CN
  · have hz0 := rstr_ne hs h0
    have d1 := rstrZ (zone.div hp h0) (by decide)
    have C20 : ∀ (b : Nat) (W : World), PlayAt W b → Below w.heap.size w W → Calls Tryz.prog 75 #[(.pointer (some ⟨b, 0, none⟩)), .string ⟨#[49]⟩, .string s] W (Bret (.string (str (ratL (1 / p)))) W) := fun b W hP hW => by
      have := pRdiv one_rstr hs zone hp h0 w htab (by decide) b W hP hW; exact this
    have C21 : ∀ (b : Nat) (W : World), PlayAt W b → Below w.heap.size w W → Calls Tryz.prog 74 #[(.pointer (some ⟨b, 0, none⟩)), .string s, .string (str (ratL (1 / p)))] W (Bret (.string ⟨#[49]⟩) W) := fun b W hP hW => by
      have := pRmul hs d1 hp (zone.div hp h0) w htab (by decide) b W hP hW; rwa [one_div h0, one_rstr.lit] at this
    have C22 : ∀ (b : Nat) (W : World), PlayAt W b → Below w.heap.size w W → Calls Tryz.prog 74 #[(.pointer (some ⟨b, 0, none⟩)), .string s, .string t] W (Bret (.string (str (ratL (p * q)))) W) := fun b W hP hW => by
      have := pRmul hs ht hp hq w htab (by decide) b W hP hW; exact this
    have C23 : ∀ (b : Nat) (W : World), PlayAt W b → Below w.heap.size w W → Calls Tryz.prog 75 #[(.pointer (some ⟨b, 0, none⟩)), .string (str (ratL (p * q))), .string s] W (Bret (.string t) W) := fun b W hP hW => by
      have := pRdiv m1 hs (hp.mul hq) hp h0 w htab (by decide) b W hP hW; rwa [mul_div_left h0, ht.lit] at this
    rcases ordQ_cases p q with ⟨e, k⟩ | ⟨e, k⟩ | ⟨e, k⟩
    · rw [e] at C24 C25 C28 C31
      rw [show (-1 : Int) * ordQ z 0 = -ordQ z 0 by omega] at C31
      exact trat_nm s t u _ _ _ _ _ _ _ _ _ _ _ w g0 g1 hz0 (neq_lists (rstr_differ hs ht (Rat.ne_of_lt k))) C0 C1 C2 C3 C4 C5 C6 C7 C8 C9 C10 C11 C12 C13 C14 C15 C16 C17 C18 C19 C20 C21 C22 C23 C24 C25 C26 C27 C28 C29 C30 C31 C32 CN
    · rw [e] at C24 C25 C28 C31
      rw [Int.zero_mul] at C31
      exact trat_n0 s t u _ _ _ _ _ _ _ _ _ _ _ w g0 g1 hz0 (eq_lists (by rw [← hs.lit, k, ht.lit])) C0 C1 C2 C3 C4 C5 C6 C7 C8 C9 C10 C11 C12 C13 C14 C15 C16 C17 C18 C19 C20 C21 C22 C23 C24 C25 C26 C27 C28 C29 C30 C31 C32 CN
    · rw [e] at C24 C25 C28 C31
      rw [Int.one_mul] at C31
      exact trat_np s t u _ _ _ _ _ _ _ _ _ _ _ w g0 g1 hz0 (neq_lists (rstr_differ hs ht (Rat.ne_of_gt k))) C0 C1 C2 C3 C4 C5 C6 C7 C8 C9 C10 C11 C12 C13 C14 C15 C16 C17 C18 C19 C20 C21 C22 C23 C24 C25 C26 C27 C28 C29 C30 C31 C32 CN

theorem trat_walk (s t u : ByteArray) (w : World) (hs : s.size ≤ 9223372036854775807) (ht : t.size ≤ 9223372036854775807) (hu : u.size ≤ 9223372036854775807)
    (htab : Lib.TabIs Tryz.prog w "internal/strconv.uint64pow10" .u64 Lib.pow10Tab) :
    Calls Tryz.prog 15 #[.string s, .string t, .string u] w fun e w' => e = .returned (.bool true) ∧ Below w.heap.size w w' := by
  have C0 := broken_three s t u w hs ht hu
  cases hr : brokenB s && (brokenB t && brokenB u)
  · rw [hr] at C0
    exact trat_awake s t u w C0 htab
  · rw [hr] at C0
    rw [Bool.and_eq_true, Bool.and_eq_true] at hr
    obtain ⟨a1, a2⟩ := broken_rstr hr.1
    obtain ⟨b1, b2⟩ := broken_rstr hr.2.1
    obtain ⟨c1, c2⟩ := broken_rstr hr.2.2
    exact trat_main s t u _ _ _ w a1 b1 c1 a2 b2 c2 C0 htab
end Go.Proofs.YtbadibbdoljjhaaGreatDoor
