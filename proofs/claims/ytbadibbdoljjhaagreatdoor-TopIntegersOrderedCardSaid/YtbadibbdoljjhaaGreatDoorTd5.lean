import Derived.Test.YtbadibbdoljjhaaGreatDoorTd2

set_option linter.unusedVariables false
/-
  TopIntegersOrdered: one order of the three numbers.
-/
namespace Go.Proofs.YtbadibbdoljjhaaGreatDoor
open Go Go.Proofs Go.RowKit

set_option maxRecDepth 20000 in
set_option maxHeartbeats 16000000 in
theorem tord_zz (s t u su tu sm tm st lo hi sum : ByteArray) (g : Int) (w : World) (hg0 : -1 ≤ g) (hg1 : g ≤ 1) (he : (s.toList == t.toList) = true)
    (C0 : Calls Tryz.prog 58 #[.slice (some ⟨w.heap.size, 0, none⟩) 3 3] (w.alloc (Obj.cells #[.string s, .string t, .string u] 22)) (Bret (.bool true) (w.alloc (Obj.cells #[.string s, .string t, .string u] 22))))
    (C1 : ∀ (b k : Nat) (W : World), PlayCl W b k → Below w.heap.size w W → Calls Tryz.prog 68 #[.string s, .string t, (.pointer (some ⟨k, 0, none⟩))] W (Bret (.int .i64 0) W))
    (C2 : ∀ (b k : Nat) (W : World), PlayCl W b k → Below w.heap.size w W → Calls Tryz.prog 68 #[.string t, .string u, (.pointer (some ⟨k, 0, none⟩))] W (Bret (.int .i64 (0)) W))
    (C3 : ∀ (b k : Nat) (W : World), PlayCl W b k → Below w.heap.size w W → Calls Tryz.prog 68 #[.string s, .string u, (.pointer (some ⟨k, 0, none⟩))] W (Bret (.int .i64 (0)) W))
    (C4 : ∀ (b k : Nat) (W : World), PlayCl W b k → Below w.heap.size w W → Calls Tryz.prog 68 #[.string t, .string s, (.pointer (some ⟨k, 0, none⟩))] W (Bret (.int .i64 0) W))
    (C5 : ∀ (b : Nat) (W : World), PlayAt W b → Below w.heap.size w W → Calls Tryz.prog 60 #[(.pointer (some ⟨b, 0, none⟩)), .string s, .string u] W (Bret (.string su) W))
    (C6 : ∀ (b : Nat) (W : World), PlayAt W b → Below w.heap.size w W → Calls Tryz.prog 60 #[(.pointer (some ⟨b, 0, none⟩)), .string t, .string u] W (Bret (.string tu) W))
    (C7 : ∀ (b k : Nat) (W : World), PlayCl W b k → Below w.heap.size w W → Calls Tryz.prog 68 #[.string su, .string tu, (.pointer (some ⟨k, 0, none⟩))] W (Bret (.int .i64 0) W))
    (C8 : ∀ (b : Nat) (W : World), PlayAt W b → Below w.heap.size w W → Calls Tryz.prog 62 #[(.pointer (some ⟨b, 0, none⟩)), .string s, .string u] W (Bret (.string sm) W))
    (C9 : ∀ (b : Nat) (W : World), PlayAt W b → Below w.heap.size w W → Calls Tryz.prog 62 #[(.pointer (some ⟨b, 0, none⟩)), .string t, .string u] W (Bret (.string tm) W))
    (C10 : ∀ (b k : Nat) (W : World), PlayCl W b k → Below w.heap.size w W → Calls Tryz.prog 68 #[.string sm, .string tm, (.pointer (some ⟨k, 0, none⟩))] W (Bret (.int .i64 0) W))
    (C11 : ∀ (b k : Nat) (W : World), PlayCl W b k → Below w.heap.size w W → Calls Tryz.prog 68 #[.string u, .string ⟨#[48]⟩, (.pointer (some ⟨k, 0, none⟩))] W (Bret (.int .i64 g) W))
    (C12 : ∀ (b : Nat) (W : World), PlayAt W b → Below w.heap.size w W → Calls Tryz.prog 61 #[(.pointer (some ⟨b, 0, none⟩)), .string s, .string t] W (Bret (.string st) W))
    (C13 : ∀ (b k : Nat) (W : World), PlayCl W b k → Below w.heap.size w W → Calls Tryz.prog 68 #[.string st, .string ⟨#[48]⟩, (.pointer (some ⟨k, 0, none⟩))] W (Bret (.int .i64 0) W))
    (C14 : ∀ W : World, Below w.heap.size w W → Calls Tryz.prog 69 #[.string s, .string t] W (Bret (.tuple #[.string lo, .int .i64 0]) W))
    (C16 : ∀ W : World, Below w.heap.size w W → Calls Tryz.prog 70 #[.string s, .string t] W (Bret (.tuple #[.string hi, .int .i64 0]) W))
    (C18 : ∀ (b k : Nat) (W : World), PlayCl W b k → Below w.heap.size w W → Calls Tryz.prog 68 #[.string lo, .string hi, (.pointer (some ⟨k, 0, none⟩))] W (Bret (.int .i64 0) W))
    (C19 : ∀ (b : Nat) (W : World), PlayAt W b → Below w.heap.size w W → Calls Tryz.prog 60 #[(.pointer (some ⟨b, 0, none⟩)), .string lo, .string hi] W (Bret (.string sum) W))
    (C20 : ∀ (b : Nat) (W : World), PlayAt W b → Below w.heap.size w W → Calls Tryz.prog 60 #[(.pointer (some ⟨b, 0, none⟩)), .string s, .string t] W (Bret (.string sum) W))
    (CN : ∀ W : World, Below w.heap.size w W → Calls Tryz.prog 59 #[] W (Bret (.bool true) W)) :
    Calls Tryz.prog 14 #[.string s, .string t, .string u] w (Bret (.bool true) w) := by
  have CO : ∀ (r : ByteArray) (b : Nat) (W : World), PlayAt W b → Calls Tryz.prog 63 #[(.pointer (some ⟨b, 0, none⟩)), .string r, .int .i64 0] W (fun e w' => e = .returned (.string r) ∧ w' = W) := fun r b W hP => playI_of r b W hP
  have B0 : Below w.heap.size w (w.alloc (Obj.cells #[.string s, .string t, .string u] 22)) := (Below.refl _ _).alloc (Nat.le_refl _) _
  have K0 := Lib.hid C0; have K1 := Lib.hid C1; have K2 := Lib.hid C2; have K3 := Lib.hid C3; have K4 := Lib.hid C4; have K5 := Lib.hid C5; have K6 := Lib.hid C6; have K7 := Lib.hid C7; have K8 := Lib.hid C8; have K9 := Lib.hid C9; have K10 := Lib.hid C10; have K11 := Lib.hid C11; have K12 := Lib.hid C12; have K13 := Lib.hid C13; have K14 := Lib.hid C14; have K16 := Lib.hid C16; have K18 := Lib.hid C18; have K19 := Lib.hid C19; have K20 := Lib.hid C20; have KO := Lib.hid CO; have KN := Lib.hid CN; have HB0 := Lib.hid B0
  clear C0 C1 C2 C3 C4 C5 C6 C7 C8 C9 C10 C11 C12 C13 C14 C16 C18 C19 C20 CO CN B0
  go_enter Tryz.func14, Tryz.ntmps14
  go_wp2_with (go_at_call 58; refine K0.out.mono ?_; rintro e w0 ⟨rfl, hb0⟩; refine Hid.out ?_)
  have hB9 := Below.chain HB0.out hb0; clear hb0
  have P0 := playcl_new w0 69 67
  have A0 := below_two w0 69 67
  have hB8 := Below.chain hB9 A0; clear hB9 A0
  have HP := Lib.hid P0; have H8 := Lib.hid hB8; clear P0 hB8
  refine Lib.hid ?_
  go_wp2_with fail
  have P0 := HP.out; have hB8 := H8.out; clear HP H8
  generalize ((w0.alloc (Obj.cells #[Value.bool true] 69)).alloc (Obj.cells #[Value.pointer (some ⟨w0.heap.size, 0, none⟩)] 67)) = W1 at *
  generalize w0.heap.size + 1 = k at *
  generalize w0.heap.size = b at *
  have K : ∀ W : World, Below W1.heap.size W1 W → PlayCl W b k ∧ Below w.heap.size w W := fun W hW => ⟨P0.mono hW, Below.chain hB8 hW⟩
  have KK := Lib.hid K; clear K P0 hB8
  have hB0 := Below.refl W1.heap.size W1
  go_wp2_with (go_at_call 68; (with_reducible refine (K1.out _ _ _ (KK.out _ hB0).1 (KK.out _ hB0).2).mono ?_); rintro e w1 ⟨rfl, hb1⟩; refine Hid.out ?_)
  have hB1 := Below.chain hB0 hb1; clear hb1 hB0
  refine Lib.hid ?_
  go_wp2_with (go_at_call 68; (with_reducible refine (K2.out _ _ _ (KK.out _ hB1).1 (KK.out _ hB1).2).mono ?_); rintro e w2 ⟨rfl, hb2⟩; refine Hid.out ?_)
  have hB2 := Below.chain hB1 hb2; clear hb2 hB1
  refine Lib.hid ?_
  go_wp2_with (go_at_call 68; (with_reducible refine (K3.out _ _ _ (KK.out _ hB2).1 (KK.out _ hB2).2).mono ?_); rintro e w3 ⟨rfl, hb3⟩; refine Hid.out ?_)
  have hB3 := Below.chain hB2 hb3; clear hb3 hB2
  refine Lib.hid ?_
  go_wp2_with (go_at_call 68; (with_reducible refine (K4.out _ _ _ (KK.out _ hB3).1 (KK.out _ hB3).2).mono ?_); rintro e w4 ⟨rfl, hb4⟩; refine Hid.out ?_)
  have hB4 := Below.chain hB3 hb4; clear hb4 hB3
  refine Lib.hid ?_
  go_wp2_with fail
  have hD4 := hB4.drew; clear hB4
  have hm1 : IntKind.i64.wrap (0 * g) = 0 := by rw [IntKind.wrap_i64]; omega
  have hm2 : IntKind.i64.wrap (0) = 0 := by rw [IntKind.wrap_i64]; omega
  go_region_held3 (fun w' => w'.cell? ⟨k, 0, none⟩ = some (Value.pointer (some ⟨b, 0, none⟩))) (first | (with_reducible exact (KK.out _ hD4).1.cell) | (with_reducible exact (KK.out _ hB5).1.cell) | (with_reducible exact (KK.out _ hB6).1.cell) | (with_reducible exact (KK.out _ hB7).1.cell) | (with_reducible exact (KK.out _ hB8).1.cell) | (with_reducible exact (KK.out _ hB9).1.cell) | (with_reducible exact (KK.out _ hB10).1.cell) | (with_reducible exact (KK.out _ hB11).1.cell) | (with_reducible exact (KK.out _ hB12).1.cell) | (with_reducible exact (KK.out _ hB13).1.cell) | fail) (first
    | (go_at_call 60; (with_reducible refine (K5.out _ _ (KK.out _ hD4).1.box (KK.out _ hD4).2).mono ?_); rintro e w5 ⟨rfl, hb5⟩; have hB5 := Below.chain hD4 hb5)
    | (go_at_call 60; (with_reducible refine (K6.out _ _ (KK.out _ hB5).1.box (KK.out _ hB5).2).mono ?_); rintro e w6 ⟨rfl, hb6⟩; have hB6 := Below.chain hB5 hb6)
    | (go_at_call 68; (with_reducible refine (K7.out _ _ _ (KK.out _ hB6).1 (KK.out _ hB6).2).mono ?_); rintro e w7 ⟨rfl, hb7⟩; have hB7 := Below.chain hB6 hb7)
    | (go_at_call 62; (with_reducible refine (K8.out _ _ (KK.out _ hB7).1.box (KK.out _ hB7).2).mono ?_); rintro e w8 ⟨rfl, hb8⟩; have hB8 := Below.chain hB7 hb8)
    | (go_at_call 62; (with_reducible refine (K9.out _ _ (KK.out _ hB8).1.box (KK.out _ hB8).2).mono ?_); rintro e w9 ⟨rfl, hb9⟩; have hB9 := Below.chain hB8 hb9)
    | (go_at_call 68; (with_reducible refine (K10.out _ _ _ (KK.out _ hB9).1 (KK.out _ hB9).2).mono ?_); rintro e w10 ⟨rfl, hb10⟩; have hB10 := Below.chain hB9 hb10)
    | (go_at_call 68; (with_reducible refine (K11.out _ _ _ (KK.out _ hB10).1 (KK.out _ hB10).2).mono ?_); rintro e w11 ⟨rfl, hb11⟩; have hB11 := Below.chain hB10 hb11)
    | (go_at_call 61; (with_reducible refine (K12.out _ _ (KK.out _ hB11).1.box (KK.out _ hB11).2).mono ?_); rintro e w12 ⟨rfl, hb12⟩; have hB12 := Below.chain hB11 hb12)
    | (go_at_call 68; (with_reducible refine (K13.out _ _ _ (KK.out _ hB12).1 (KK.out _ hB12).2).mono ?_); rintro e w13 ⟨rfl, hb13⟩; have hB13 := Below.chain hB12 hb13))
  all_goals clear hm1 hm2
  go_wp2_with fail
  have hD13 := hB13.drew; clear hB13
  go_region_held3 (fun w' => w'.cell? ⟨k, 0, none⟩ = some (Value.pointer (some ⟨b, 0, none⟩))) (first | (with_reducible exact (KK.out _ hD13).1.cell) | (with_reducible exact (KK.out _ hB14).1.cell) | (with_reducible exact (KK.out _ hB16).1.cell) | fail) (first
    | (go_at_call 69; (with_reducible refine (K14.out _ (KK.out _ hD13).2).mono ?_); rintro e w14 ⟨rfl, hb14⟩; have hB14 := Below.chain hD13 hb14)
    | (go_at_call 63; (with_reducible refine (KO.out _ _ _ (KK.out _ hB14).1.box).mono ?_); rintro e w15 ⟨rfl, h⟩; subst h)
    | (go_at_call 70; (with_reducible refine (K16.out _ (KK.out _ hB14).2).mono ?_); rintro e w16 ⟨rfl, hb16⟩; have hB16 := Below.chain hB14 hb16)
    | (go_at_call 63; (with_reducible refine (KO.out _ _ _ (KK.out _ hB16).1.box).mono ?_); rintro e w17 ⟨rfl, h⟩; subst h))
  go_wp2_with fail
  have hD17 := hB16.drew; clear hB16
  go_region_held3 (fun w' => w'.cell? ⟨k, 0, none⟩ = some (Value.pointer (some ⟨b, 0, none⟩)) ∧ w'.cell? ⟨b, 0, none⟩ = some (Value.bool true)) (first | (with_reducible exact (KK.out _ hD17).1.keep2) | (with_reducible exact (KK.out _ hB18).1.keep2) | (with_reducible exact (KK.out _ hB19).1.keep2) | (with_reducible exact (KK.out _ hB20).1.keep2) | (with_reducible exact (KK.out _ hB99).1.keep2) | fail) (first
    | (go_at_call 68; (with_reducible refine (K18.out _ _ _ (KK.out _ hD17).1 (KK.out _ hD17).2).mono ?_); rintro e w18 ⟨rfl, hb18⟩; have hB18 := Below.chain hD17 hb18)
    | (go_at_call 60; (with_reducible refine (K19.out _ _ (KK.out _ hB18).1.box (KK.out _ hB18).2).mono ?_); rintro e w19 ⟨rfl, hb19⟩; have hB19 := Below.chain hB18 hb19)
    | (go_at_call 60; (with_reducible refine (K20.out _ _ (KK.out _ hB19).1.box (KK.out _ hB19).2).mono ?_); rintro e w20 ⟨rfl, hb20⟩; have hB20 := Below.chain hB19 hb20)
    | (go_at_call 59; (with_reducible refine (KN.out _ (KK.out _ hB20).2).mono ?_); rintro e w99 ⟨rfl, hb99⟩; have hB99 := Below.chain hB20 hb99))
  go_wp2
  refine bodyPost_ret (v := .bool true) (by simp [results, Tryz.results14, go_sem]) rfl ?_
  exact ⟨rfl, (KK.out _ hB99).2⟩

end Go.Proofs.YtbadibbdoljjhaaGreatDoor

