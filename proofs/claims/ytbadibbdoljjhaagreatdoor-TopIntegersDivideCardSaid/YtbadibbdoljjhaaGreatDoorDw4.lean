import Derived.Test.YtbadibbdoljjhaaGreatDoorDw3
import Derived.Test.YtbadibbdoljjhaaGreatDoorCut22

set_option linter.unusedVariables false
/-
  TopIntegersDivide: the walk.
-/
namespace Go.Proofs.YtbadibbdoljjhaaGreatDoor
open Go Go.Proofs Go.RowKit


set_option maxRecDepth 20000 in
set_option maxHeartbeats 16000000 in
theorem tdiv_z (s g u v m us vt st a : ByteArray) (w : World)
    (C0 : Calls Tryz.prog 58 #[.slice (some ⟨w.heap.size, 0, none⟩) 2 2] (w.alloc (Obj.cells #[.string s, .string ⟨#[48]⟩] 22)) (Bret (.bool true) (w.alloc (Obj.cells #[.string s, .string ⟨#[48]⟩] 22))))
    (C1 : ∀ W : World, Below w.heap.size w W → Calls Tryz.prog 23 #[.string s, .string ⟨#[48]⟩] W (Bret (.tuple #[.string g, .string u, .string v, .int .i64 0]) W))
    (C2 : ∀ W : World, Below w.heap.size w W → Calls Tryz.prog 19 #[.string s, .string ⟨#[48]⟩] W (Bret (.tuple #[.string g, .int .i64 0]) W))
    (C3 : ∀ W : World, Below w.heap.size w W → Calls Tryz.prog 21 #[.string s, .string ⟨#[48]⟩] W (Bret (.tuple #[.string m, .int .i64 0]) W))
    (C4 : ∀ (b : Nat) (W : World), PlayAt W b → Below w.heap.size w W → Calls Tryz.prog 62 #[(.pointer (some ⟨b, 0, none⟩)), .string u, .string s] W (Bret (.string us) W))
    (C5 : ∀ (b : Nat) (W : World), PlayAt W b → Below w.heap.size w W → Calls Tryz.prog 62 #[(.pointer (some ⟨b, 0, none⟩)), .string v, .string ⟨#[48]⟩] W (Bret (.string vt) W))
    (C6 : ∀ (b : Nat) (W : World), PlayAt W b → Below w.heap.size w W → Calls Tryz.prog 60 #[(.pointer (some ⟨b, 0, none⟩)), .string us, .string vt] W (Bret (.string g) W))
    (C7 : ∀ (b : Nat) (W : World), PlayAt W b → Below w.heap.size w W → Calls Tryz.prog 62 #[(.pointer (some ⟨b, 0, none⟩)), .string m, .string g] W (Bret (.string a) W))
    (C8 : ∀ (b : Nat) (W : World), PlayAt W b → Below w.heap.size w W → Calls Tryz.prog 62 #[(.pointer (some ⟨b, 0, none⟩)), .string s, .string ⟨#[48]⟩] W (Bret (.string st) W))
    (C9 : ∀ W : World, Below w.heap.size w W → Calls Tryz.prog 64 #[.string st] W (Bret (.tuple #[.string a, .int .i64 0]) W))
    (C10 : ∀ W : World, Below w.heap.size w W → Calls Tryz.prog 65 #[.string s, .string ⟨#[48]⟩] W (Bret (.tuple #[.string ⟨#[]⟩, .int .i64 19]) W))
    (C11 : ∀ W : World, Below w.heap.size w W → Calls Tryz.prog 64 #[.string s] W (Bret (.tuple #[.string g, .int .i64 0]) W))
    (CN : ∀ W : World, Below w.heap.size w W → Calls Tryz.prog 59 #[] W (Bret (.bool true) W)) :
    Calls Tryz.prog 13 #[.string s, .string ⟨#[48]⟩] w (Bret (.bool true) w) := by
  have CO : ∀ (r : ByteArray) (b : Nat) (W : World), PlayAt W b → Calls Tryz.prog 63 #[(.pointer (some ⟨b, 0, none⟩)), .string r, .int .i64 0] W (fun e w' => e = .returned (.string r) ∧ w' = W) := fun r b W hP => playI_of r b W hP
  have B0 : Below w.heap.size w (w.alloc (Obj.cells #[.string s, .string ⟨#[48]⟩] 22)) := (Below.refl _ _).alloc (Nat.le_refl _) _
  have K0 := Lib.hid C0; have K1 := Lib.hid C1; have K2 := Lib.hid C2; have K3 := Lib.hid C3; have K4 := Lib.hid C4; have K5 := Lib.hid C5; have K6 := Lib.hid C6; have K7 := Lib.hid C7; have K8 := Lib.hid C8; have K9 := Lib.hid C9; have K10 := Lib.hid C10; have K11 := Lib.hid C11; have KO := Lib.hid CO; have KN := Lib.hid CN; have HB0 := Lib.hid B0
  clear C0 C1 C2 C3 C4 C5 C6 C7 C8 C9 C10 C11 CO CN B0
  go_enter Tryz.func13, Tryz.ntmps13
  go_wp2_with (go_at_call 58; refine K0.out.mono ?_; rintro e w0 ⟨rfl, hb0⟩; refine Hid.out ?_)
  have hB9 := Below.chain HB0.out hb0; clear hb0
  have P0 := play_new w0 69
  have A0 : Below w0.heap.size w0 (w0.alloc (Obj.cells #[.bool true] 69)) := (Below.refl _ _).alloc (Nat.le_refl _) _
  have hB8 := Below.chain hB9 A0; clear hB9 A0
  have HP := Lib.hid P0; have H8 := Lib.hid hB8; clear P0 hB8
  refine Lib.hid ?_
  go_wp2_with fail
  have P0 := HP.out; have hB8 := H8.out; clear HP H8
  generalize w0.alloc (Obj.cells #[.bool true] 69) = W1 at *
  generalize w0.heap.size = b at *
  have K : ∀ W : World, Below W1.heap.size W1 W → PlayAt W b ∧ Below w.heap.size w W := fun W hW => ⟨P0.mono hW, Below.chain hB8 hW⟩
  have KK := Lib.hid K; clear K P0 hB8
  have hB0 := Below.refl W1.heap.size W1
  go_wp2_with (go_at_call 23; refine (K1.out _ (KK.out _ hB0).2).mono ?_; rintro e w1 ⟨rfl, hb1⟩; refine Hid.out ?_)
  have hB1 := Below.chain hB0 hb1; clear hb1 hB0
  refine Lib.hid ?_
  go_wp2_with (go_at_call 19; refine (K2.out _ (KK.out _ hB1).2).mono ?_; rintro e w2 ⟨rfl, hb2⟩; refine Hid.out ?_)
  have hB2 := Below.chain hB1 hb2; clear hb2 hB1
  refine Lib.hid ?_
  go_wp2_with (go_at_call 63; refine (KO.out _ _ _ (KK.out _ hB2).1).mono ?_; rintro e w3 ⟨rfl, h⟩; subst h; refine Hid.out ?_)
  refine Lib.hid ?_
  go_wp2_with (go_at_call 21; refine (K3.out _ (KK.out _ hB2).2).mono ?_; rintro e w4 ⟨rfl, hb4⟩; refine Hid.out ?_)
  have hB4 := Below.chain hB2 hb4; clear hb4 hB2
  refine Lib.hid ?_
  go_wp2_with (go_at_call 63; refine (KO.out _ _ _ (KK.out _ hB4).1).mono ?_; rintro e w5 ⟨rfl, h⟩; subst h; refine Hid.out ?_)
  refine Lib.hid ?_
  go_wp2_with (go_at_call 62; refine (K4.out _ _ (KK.out _ hB4).1 (KK.out _ hB4).2).mono ?_; rintro e w6 ⟨rfl, hb6⟩; refine Hid.out ?_)
  have hB6 := Below.chain hB4 hb6; clear hb6 hB4
  refine Lib.hid ?_
  go_wp2_with (go_at_call 62; refine (K5.out _ _ (KK.out _ hB6).1 (KK.out _ hB6).2).mono ?_; rintro e w7 ⟨rfl, hb7⟩; refine Hid.out ?_)
  have hB7 := Below.chain hB6 hb7; clear hb7 hB6
  refine Lib.hid ?_
  go_wp2_with (go_at_call 60; refine (K6.out _ _ (KK.out _ hB7).1 (KK.out _ hB7).2).mono ?_; rintro e w8 ⟨rfl, hb8⟩; refine Hid.out ?_)
  have hB8 := Below.chain hB7 hb8; clear hb8 hB7
  refine Lib.hid ?_
  go_wp2_with (go_at_call 62; refine (K7.out _ _ (KK.out _ hB8).1 (KK.out _ hB8).2).mono ?_; rintro e w9 ⟨rfl, hb9⟩; refine Hid.out ?_)
  have hB9 := Below.chain hB8 hb9; clear hb9 hB8
  refine Lib.hid ?_
  go_wp2_with (go_at_call 62; refine (K8.out _ _ (KK.out _ hB9).1 (KK.out _ hB9).2).mono ?_; rintro e w10 ⟨rfl, hb10⟩; refine Hid.out ?_)
  have hB10 := Below.chain hB9 hb10; clear hb10 hB9
  refine Lib.hid ?_
  go_wp2_with (go_at_call 64; refine (K9.out _ (KK.out _ hB10).2).mono ?_; rintro e w11 ⟨rfl, hb11⟩; refine Hid.out ?_)
  have hB11 := Below.chain hB10 hb11; clear hb11 hB10
  refine Lib.hid ?_
  go_wp2_with (go_at_call 63; refine (KO.out _ _ _ (KK.out _ hB11).1).mono ?_; rintro e w12 ⟨rfl, h⟩; subst h; refine Hid.out ?_)
  refine Lib.hid ?_
  go_wp2_with (go_at_call 65; refine (K10.out _ (KK.out _ hB11).2).mono ?_; rintro e w13 ⟨rfl, hb13⟩; refine Hid.out ?_)
  have hB13 := Below.chain hB11 hb13; clear hb13 hB11
  refine Lib.hid ?_
  go_wp2_with (go_at_call 64; refine (K11.out _ (KK.out _ hB13).2).mono ?_; rintro e w14 ⟨rfl, hb14⟩; refine Hid.out ?_)
  have hB14 := Below.chain hB13 hb14; clear hb14 hB13
  refine Lib.hid ?_
  go_wp2_with (go_at_call 63; refine (KO.out _ _ _ (KK.out _ hB14).1).mono ?_; rintro e w15 ⟨rfl, h⟩; subst h; refine Hid.out ?_)
  refine Lib.hid ?_
  have PL := (KK.out _ hB14).1
  have c0 := PL.cell; have f0 := PL.fr; have l0 := PL.lt; clear PL
  go_wp2_with (go_at_call 59; refine (KN.out _ (KK.out _ hB14).2).mono ?_; rintro e w17 ⟨rfl, hb17⟩; refine Hid.out ?_)
  have hB17 := Below.chain hB14 hb17; clear hb17 hB14
  refine Lib.hid ?_
  go_wp2
  refine bodyPost_ret (v := .bool true) (by simp [results, Tryz.results13, go_sem]) rfl ?_
  exact ⟨rfl, (KK.out _ hB17).2⟩

set_option maxRecDepth 20000 in
set_option maxHeartbeats 16000000 in
theorem tdiv_0 (s t g u v m us vt st a q r ra ta qt : ByteArray) (tc : Int) (w : World) (hne : (t.toList == [48]) = false)
    (C0 : Calls Tryz.prog 58 #[.slice (some ⟨w.heap.size, 0, none⟩) 2 2] (w.alloc (Obj.cells #[.string s, .string t] 22)) (Bret (.bool true) (w.alloc (Obj.cells #[.string s, .string t] 22))))
    (C1 : ∀ W : World, Below w.heap.size w W → Calls Tryz.prog 23 #[.string s, .string t] W (Bret (.tuple #[.string g, .string u, .string v, .int .i64 0]) W))
    (C2 : ∀ W : World, Below w.heap.size w W → Calls Tryz.prog 19 #[.string s, .string t] W (Bret (.tuple #[.string g, .int .i64 0]) W))
    (C3 : ∀ W : World, Below w.heap.size w W → Calls Tryz.prog 21 #[.string s, .string t] W (Bret (.tuple #[.string m, .int .i64 0]) W))
    (C4 : ∀ (b : Nat) (W : World), PlayAt W b → Below w.heap.size w W → Calls Tryz.prog 62 #[(.pointer (some ⟨b, 0, none⟩)), .string u, .string s] W (Bret (.string us) W))
    (C5 : ∀ (b : Nat) (W : World), PlayAt W b → Below w.heap.size w W → Calls Tryz.prog 62 #[(.pointer (some ⟨b, 0, none⟩)), .string v, .string t] W (Bret (.string vt) W))
    (C6 : ∀ (b : Nat) (W : World), PlayAt W b → Below w.heap.size w W → Calls Tryz.prog 60 #[(.pointer (some ⟨b, 0, none⟩)), .string us, .string vt] W (Bret (.string g) W))
    (C7 : ∀ (b : Nat) (W : World), PlayAt W b → Below w.heap.size w W → Calls Tryz.prog 62 #[(.pointer (some ⟨b, 0, none⟩)), .string m, .string g] W (Bret (.string a) W))
    (C8 : ∀ (b : Nat) (W : World), PlayAt W b → Below w.heap.size w W → Calls Tryz.prog 62 #[(.pointer (some ⟨b, 0, none⟩)), .string s, .string t] W (Bret (.string st) W))
    (C9 : ∀ W : World, Below w.heap.size w W → Calls Tryz.prog 64 #[.string st] W (Bret (.tuple #[.string a, .int .i64 0]) W))
    (C10 : ∀ W : World, Below w.heap.size w W → Calls Tryz.prog 65 #[.string s, .string t] W (Bret (.tuple #[.string q, .int .i64 0]) W))
    (C11 : ∀ W : World, Below w.heap.size w W → Calls Tryz.prog 66 #[.string s, .string t] W (Bret (.tuple #[.string r, .int .i64 0]) W))
    (C12 : ∀ W : World, Below w.heap.size w W → Calls Tryz.prog 56 #[.string r] W (Bret (.tuple #[.int .i64 0, .int .i64 0]) W))
    (C13 : ∀ W : World, Below w.heap.size w W → Calls Tryz.prog 56 #[.string t] W (Bret (.tuple #[.int .i64 tc, .int .i64 0]) W))
    (C14 : ∀ W : World, Below w.heap.size w W → Calls Tryz.prog 64 #[.string r] W (Bret (.tuple #[.string ra, .int .i64 0]) W))
    (C15 : ∀ W : World, Below w.heap.size w W → Calls Tryz.prog 64 #[.string t] W (Bret (.tuple #[.string ta, .int .i64 0]) W))
    (C16 : ∀ W : World, Below w.heap.size w W → Calls Tryz.prog 67 #[.string ra, .string ta] W (Bret (.tuple #[.int .i64 (-1), .int .i64 0]) W))
    (C17 : ∀ W : World, Below w.heap.size w W → Calls Tryz.prog 66 #[.string s, .string g] W (Bret (.tuple #[.string ⟨#[48]⟩, .int .i64 0]) W))
    (C18 : ∀ W : World, Below w.heap.size w W → Calls Tryz.prog 66 #[.string t, .string g] W (Bret (.tuple #[.string ⟨#[48]⟩, .int .i64 0]) W))
    (C19 : ∀ (b : Nat) (W : World), PlayAt W b → Below w.heap.size w W → Calls Tryz.prog 62 #[(.pointer (some ⟨b, 0, none⟩)), .string q, .string t] W (Bret (.string qt) W))
    (C20 : ∀ (b : Nat) (W : World), PlayAt W b → Below w.heap.size w W → Calls Tryz.prog 60 #[(.pointer (some ⟨b, 0, none⟩)), .string qt, .string r] W (Bret (.string s) W))
    (CN : ∀ W : World, Below w.heap.size w W → Calls Tryz.prog 59 #[] W (Bret (.bool true) W)) :
    Calls Tryz.prog 13 #[.string s, .string t] w (Bret (.bool true) w) := by
  have CO : ∀ (r : ByteArray) (b : Nat) (W : World), PlayAt W b → Calls Tryz.prog 63 #[(.pointer (some ⟨b, 0, none⟩)), .string r, .int .i64 0] W (fun e w' => e = .returned (.string r) ∧ w' = W) := fun r b W hP => playI_of r b W hP
  have B0 : Below w.heap.size w (w.alloc (Obj.cells #[.string s, .string t] 22)) := (Below.refl _ _).alloc (Nat.le_refl _) _
  have K0 := Lib.hid C0; have K1 := Lib.hid C1; have K2 := Lib.hid C2; have K3 := Lib.hid C3; have K4 := Lib.hid C4; have K5 := Lib.hid C5; have K6 := Lib.hid C6; have K7 := Lib.hid C7; have K8 := Lib.hid C8; have K9 := Lib.hid C9; have K10 := Lib.hid C10; have K11 := Lib.hid C11; have K12 := Lib.hid C12; have K13 := Lib.hid C13; have K14 := Lib.hid C14; have K15 := Lib.hid C15; have K16 := Lib.hid C16; have K17 := Lib.hid C17; have K18 := Lib.hid C18; have K19 := Lib.hid C19; have K20 := Lib.hid C20; have KO := Lib.hid CO; have KN := Lib.hid CN; have HB0 := Lib.hid B0
  clear C0 C1 C2 C3 C4 C5 C6 C7 C8 C9 C10 C11 C12 C13 C14 C15 C16 C17 C18 C19 C20 CO CN B0
  go_enter Tryz.func13, Tryz.ntmps13
  go_wp2_with (go_at_call 58; refine K0.out.mono ?_; rintro e w0 ⟨rfl, hb0⟩; refine Hid.out ?_)
  have hB9 := Below.chain HB0.out hb0; clear hb0
  have P0 := play_new w0 69
  have A0 : Below w0.heap.size w0 (w0.alloc (Obj.cells #[.bool true] 69)) := (Below.refl _ _).alloc (Nat.le_refl _) _
  have hB8 := Below.chain hB9 A0; clear hB9 A0
  have HP := Lib.hid P0; have H8 := Lib.hid hB8; clear P0 hB8
  refine Lib.hid ?_
  go_wp2_with fail
  have P0 := HP.out; have hB8 := H8.out; clear HP H8
  generalize w0.alloc (Obj.cells #[.bool true] 69) = W1 at *
  generalize w0.heap.size = b at *
  have K : ∀ W : World, Below W1.heap.size W1 W → PlayAt W b ∧ Below w.heap.size w W := fun W hW => ⟨P0.mono hW, Below.chain hB8 hW⟩
  have KK := Lib.hid K; clear K P0 hB8
  have hB0 := Below.refl W1.heap.size W1
  go_wp2_with (go_at_call 23; refine (K1.out _ (KK.out _ hB0).2).mono ?_; rintro e w1 ⟨rfl, hb1⟩; refine Hid.out ?_)
  have hB1 := Below.chain hB0 hb1; clear hb1 hB0
  refine Lib.hid ?_
  go_wp2_with (go_at_call 19; refine (K2.out _ (KK.out _ hB1).2).mono ?_; rintro e w2 ⟨rfl, hb2⟩; refine Hid.out ?_)
  have hB2 := Below.chain hB1 hb2; clear hb2 hB1
  refine Lib.hid ?_
  go_wp2_with (go_at_call 63; refine (KO.out _ _ _ (KK.out _ hB2).1).mono ?_; rintro e w3 ⟨rfl, h⟩; subst h; refine Hid.out ?_)
  refine Lib.hid ?_
  go_wp2_with (go_at_call 21; refine (K3.out _ (KK.out _ hB2).2).mono ?_; rintro e w4 ⟨rfl, hb4⟩; refine Hid.out ?_)
  have hB4 := Below.chain hB2 hb4; clear hb4 hB2
  refine Lib.hid ?_
  go_wp2_with (go_at_call 63; refine (KO.out _ _ _ (KK.out _ hB4).1).mono ?_; rintro e w5 ⟨rfl, h⟩; subst h; refine Hid.out ?_)
  refine Lib.hid ?_
  go_wp2_with (go_at_call 62; refine (K4.out _ _ (KK.out _ hB4).1 (KK.out _ hB4).2).mono ?_; rintro e w6 ⟨rfl, hb6⟩; refine Hid.out ?_)
  have hB6 := Below.chain hB4 hb6; clear hb6 hB4
  refine Lib.hid ?_
  go_wp2_with (go_at_call 62; refine (K5.out _ _ (KK.out _ hB6).1 (KK.out _ hB6).2).mono ?_; rintro e w7 ⟨rfl, hb7⟩; refine Hid.out ?_)
  have hB7 := Below.chain hB6 hb7; clear hb7 hB6
  refine Lib.hid ?_
  go_wp2_with (go_at_call 60; refine (K6.out _ _ (KK.out _ hB7).1 (KK.out _ hB7).2).mono ?_; rintro e w8 ⟨rfl, hb8⟩; refine Hid.out ?_)
  have hB8 := Below.chain hB7 hb8; clear hb8 hB7
  refine Lib.hid ?_
  go_wp2_with (go_at_call 62; refine (K7.out _ _ (KK.out _ hB8).1 (KK.out _ hB8).2).mono ?_; rintro e w9 ⟨rfl, hb9⟩; refine Hid.out ?_)
  have hB9 := Below.chain hB8 hb9; clear hb9 hB8
  refine Lib.hid ?_
  go_wp2_with (go_at_call 62; refine (K8.out _ _ (KK.out _ hB9).1 (KK.out _ hB9).2).mono ?_; rintro e w10 ⟨rfl, hb10⟩; refine Hid.out ?_)
  have hB10 := Below.chain hB9 hb10; clear hb10 hB9
  refine Lib.hid ?_
  go_wp2_with (go_at_call 64; refine (K9.out _ (KK.out _ hB10).2).mono ?_; rintro e w11 ⟨rfl, hb11⟩; refine Hid.out ?_)
  have hB11 := Below.chain hB10 hb11; clear hb11 hB10
  refine Lib.hid ?_
  go_wp2_with (go_at_call 63; refine (KO.out _ _ _ (KK.out _ hB11).1).mono ?_; rintro e w12 ⟨rfl, h⟩; subst h; refine Hid.out ?_)
  refine Lib.hid ?_
  go_wp2_with (go_at_call 65; refine (K10.out _ (KK.out _ hB11).2).mono ?_; rintro e w13 ⟨rfl, hb13⟩; refine Hid.out ?_)
  have hB13 := Below.chain hB11 hb13; clear hb13 hB11
  refine Lib.hid ?_
  go_wp2_with (go_at_call 63; refine (KO.out _ _ _ (KK.out _ hB13).1).mono ?_; rintro e w14 ⟨rfl, h⟩; subst h; refine Hid.out ?_)
  refine Lib.hid ?_
  go_wp2_with (go_at_call 66; refine (K11.out _ (KK.out _ hB13).2).mono ?_; rintro e w15 ⟨rfl, hb15⟩; refine Hid.out ?_)
  have hB15 := Below.chain hB13 hb15; clear hb15 hB13
  refine Lib.hid ?_
  go_wp2_with (go_at_call 63; refine (KO.out _ _ _ (KK.out _ hB15).1).mono ?_; rintro e w16 ⟨rfl, h⟩; subst h; refine Hid.out ?_)
  refine Lib.hid ?_
  go_wp2_with (go_at_call 56; refine (K12.out _ (KK.out _ hB15).2).mono ?_; rintro e w17 ⟨rfl, hb17⟩; refine Hid.out ?_)
  have hB17 := Below.chain hB15 hb17; clear hb17 hB15
  refine Lib.hid ?_
  go_wp2_with (go_at_call 56; refine (K13.out _ (KK.out _ hB17).2).mono ?_; rintro e w18 ⟨rfl, hb18⟩; refine Hid.out ?_)
  have hB18 := Below.chain hB17 hb18; clear hb18 hB17
  refine Lib.hid ?_
  go_wp2_with (go_at_call 64; refine (K14.out _ (KK.out _ hB18).2).mono ?_; rintro e w19 ⟨rfl, hb19⟩; refine Hid.out ?_)
  have hB19 := Below.chain hB18 hb19; clear hb19 hB18
  refine Lib.hid ?_
  go_wp2_with (go_at_call 63; refine (KO.out _ _ _ (KK.out _ hB19).1).mono ?_; rintro e w20 ⟨rfl, h⟩; subst h; refine Hid.out ?_)
  refine Lib.hid ?_
  go_wp2_with (go_at_call 64; refine (K15.out _ (KK.out _ hB19).2).mono ?_; rintro e w21 ⟨rfl, hb21⟩; refine Hid.out ?_)
  have hB21 := Below.chain hB19 hb21; clear hb21 hB19
  refine Lib.hid ?_
  go_wp2_with (go_at_call 63; refine (KO.out _ _ _ (KK.out _ hB21).1).mono ?_; rintro e w22 ⟨rfl, h⟩; subst h; refine Hid.out ?_)
  refine Lib.hid ?_
  go_wp2_with (go_at_call 67; refine (K16.out _ (KK.out _ hB21).2).mono ?_; rintro e w23 ⟨rfl, hb23⟩; refine Hid.out ?_)
  have hB23 := Below.chain hB21 hb23; clear hb23 hB21
  refine Lib.hid ?_
  go_wp2_with (go_at_call 66; refine (K17.out _ (KK.out _ hB23).2).mono ?_; rintro e w24 ⟨rfl, hb24⟩; refine Hid.out ?_)
  have hB24 := Below.chain hB23 hb24; clear hb24 hB23
  refine Lib.hid ?_
  go_wp2_with (go_at_call 63; refine (KO.out _ _ _ (KK.out _ hB24).1).mono ?_; rintro e w25 ⟨rfl, h⟩; subst h; refine Hid.out ?_)
  refine Lib.hid ?_
  go_wp2_with (go_at_call 66; refine (K18.out _ (KK.out _ hB24).2).mono ?_; rintro e w26 ⟨rfl, hb26⟩; refine Hid.out ?_)
  have hB26 := Below.chain hB24 hb26; clear hb26 hB24
  refine Lib.hid ?_
  go_wp2_with (go_at_call 63; refine (KO.out _ _ _ (KK.out _ hB26).1).mono ?_; rintro e w27 ⟨rfl, h⟩; subst h; refine Hid.out ?_)
  refine Lib.hid ?_
  go_wp2_with (go_at_call 62; refine (K19.out _ _ (KK.out _ hB26).1 (KK.out _ hB26).2).mono ?_; rintro e w28 ⟨rfl, hb28⟩; refine Hid.out ?_)
  have hB28 := Below.chain hB26 hb28; clear hb28 hB26
  refine Lib.hid ?_
  go_wp2_with (go_at_call 60; refine (K20.out _ _ (KK.out _ hB28).1 (KK.out _ hB28).2).mono ?_; rintro e w29 ⟨rfl, hb29⟩; refine Hid.out ?_)
  have hB29 := Below.chain hB28 hb29; clear hb29 hB28
  refine Lib.hid ?_
  have PL := (KK.out _ hB29).1
  have c0 := PL.cell; have f0 := PL.fr; have l0 := PL.lt; clear PL
  go_wp2_with (go_at_call 59; refine (KN.out _ (KK.out _ hB29).2).mono ?_; rintro e w31 ⟨rfl, hb31⟩; refine Hid.out ?_)
  have hB31 := Below.chain hB29 hb31; clear hb31 hB29
  refine Lib.hid ?_
  go_wp2
  refine bodyPost_ret (v := .bool true) (by simp [results, Tryz.results13, go_sem]) rfl ?_
  exact ⟨rfl, (KK.out _ hB31).2⟩

set_option maxRecDepth 20000 in
set_option maxHeartbeats 16000000 in
theorem tdiv_p (s t g u v m us vt st a q r ra ta qt : ByteArray) (w : World) (hne : (t.toList == [48]) = false)
    (C0 : Calls Tryz.prog 58 #[.slice (some ⟨w.heap.size, 0, none⟩) 2 2] (w.alloc (Obj.cells #[.string s, .string t] 22)) (Bret (.bool true) (w.alloc (Obj.cells #[.string s, .string t] 22))))
    (C1 : ∀ W : World, Below w.heap.size w W → Calls Tryz.prog 23 #[.string s, .string t] W (Bret (.tuple #[.string g, .string u, .string v, .int .i64 0]) W))
    (C2 : ∀ W : World, Below w.heap.size w W → Calls Tryz.prog 19 #[.string s, .string t] W (Bret (.tuple #[.string g, .int .i64 0]) W))
    (C3 : ∀ W : World, Below w.heap.size w W → Calls Tryz.prog 21 #[.string s, .string t] W (Bret (.tuple #[.string m, .int .i64 0]) W))
    (C4 : ∀ (b : Nat) (W : World), PlayAt W b → Below w.heap.size w W → Calls Tryz.prog 62 #[(.pointer (some ⟨b, 0, none⟩)), .string u, .string s] W (Bret (.string us) W))
    (C5 : ∀ (b : Nat) (W : World), PlayAt W b → Below w.heap.size w W → Calls Tryz.prog 62 #[(.pointer (some ⟨b, 0, none⟩)), .string v, .string t] W (Bret (.string vt) W))
    (C6 : ∀ (b : Nat) (W : World), PlayAt W b → Below w.heap.size w W → Calls Tryz.prog 60 #[(.pointer (some ⟨b, 0, none⟩)), .string us, .string vt] W (Bret (.string g) W))
    (C7 : ∀ (b : Nat) (W : World), PlayAt W b → Below w.heap.size w W → Calls Tryz.prog 62 #[(.pointer (some ⟨b, 0, none⟩)), .string m, .string g] W (Bret (.string a) W))
    (C8 : ∀ (b : Nat) (W : World), PlayAt W b → Below w.heap.size w W → Calls Tryz.prog 62 #[(.pointer (some ⟨b, 0, none⟩)), .string s, .string t] W (Bret (.string st) W))
    (C9 : ∀ W : World, Below w.heap.size w W → Calls Tryz.prog 64 #[.string st] W (Bret (.tuple #[.string a, .int .i64 0]) W))
    (C10 : ∀ W : World, Below w.heap.size w W → Calls Tryz.prog 65 #[.string s, .string t] W (Bret (.tuple #[.string q, .int .i64 0]) W))
    (C11 : ∀ W : World, Below w.heap.size w W → Calls Tryz.prog 66 #[.string s, .string t] W (Bret (.tuple #[.string r, .int .i64 0]) W))
    (C12 : ∀ W : World, Below w.heap.size w W → Calls Tryz.prog 56 #[.string r] W (Bret (.tuple #[.int .i64 1, .int .i64 0]) W))
    (C13 : ∀ W : World, Below w.heap.size w W → Calls Tryz.prog 56 #[.string t] W (Bret (.tuple #[.int .i64 1, .int .i64 0]) W))
    (C14 : ∀ W : World, Below w.heap.size w W → Calls Tryz.prog 64 #[.string r] W (Bret (.tuple #[.string ra, .int .i64 0]) W))
    (C15 : ∀ W : World, Below w.heap.size w W → Calls Tryz.prog 64 #[.string t] W (Bret (.tuple #[.string ta, .int .i64 0]) W))
    (C16 : ∀ W : World, Below w.heap.size w W → Calls Tryz.prog 67 #[.string ra, .string ta] W (Bret (.tuple #[.int .i64 (-1), .int .i64 0]) W))
    (C17 : ∀ W : World, Below w.heap.size w W → Calls Tryz.prog 66 #[.string s, .string g] W (Bret (.tuple #[.string ⟨#[48]⟩, .int .i64 0]) W))
    (C18 : ∀ W : World, Below w.heap.size w W → Calls Tryz.prog 66 #[.string t, .string g] W (Bret (.tuple #[.string ⟨#[48]⟩, .int .i64 0]) W))
    (C19 : ∀ (b : Nat) (W : World), PlayAt W b → Below w.heap.size w W → Calls Tryz.prog 62 #[(.pointer (some ⟨b, 0, none⟩)), .string q, .string t] W (Bret (.string qt) W))
    (C20 : ∀ (b : Nat) (W : World), PlayAt W b → Below w.heap.size w W → Calls Tryz.prog 60 #[(.pointer (some ⟨b, 0, none⟩)), .string qt, .string r] W (Bret (.string s) W))
    (CN : ∀ W : World, Below w.heap.size w W → Calls Tryz.prog 59 #[] W (Bret (.bool true) W)) :
    Calls Tryz.prog 13 #[.string s, .string t] w (Bret (.bool true) w) := by
  have CO : ∀ (r : ByteArray) (b : Nat) (W : World), PlayAt W b → Calls Tryz.prog 63 #[(.pointer (some ⟨b, 0, none⟩)), .string r, .int .i64 0] W (fun e w' => e = .returned (.string r) ∧ w' = W) := fun r b W hP => playI_of r b W hP
  have B0 : Below w.heap.size w (w.alloc (Obj.cells #[.string s, .string t] 22)) := (Below.refl _ _).alloc (Nat.le_refl _) _
  have K0 := Lib.hid C0; have K1 := Lib.hid C1; have K2 := Lib.hid C2; have K3 := Lib.hid C3; have K4 := Lib.hid C4; have K5 := Lib.hid C5; have K6 := Lib.hid C6; have K7 := Lib.hid C7; have K8 := Lib.hid C8; have K9 := Lib.hid C9; have K10 := Lib.hid C10; have K11 := Lib.hid C11; have K12 := Lib.hid C12; have K13 := Lib.hid C13; have K14 := Lib.hid C14; have K15 := Lib.hid C15; have K16 := Lib.hid C16; have K17 := Lib.hid C17; have K18 := Lib.hid C18; have K19 := Lib.hid C19; have K20 := Lib.hid C20; have KO := Lib.hid CO; have KN := Lib.hid CN; have HB0 := Lib.hid B0
  clear C0 C1 C2 C3 C4 C5 C6 C7 C8 C9 C10 C11 C12 C13 C14 C15 C16 C17 C18 C19 C20 CO CN B0
  go_enter Tryz.func13, Tryz.ntmps13
  go_wp2_with (go_at_call 58; refine K0.out.mono ?_; rintro e w0 ⟨rfl, hb0⟩; refine Hid.out ?_)
  have hB9 := Below.chain HB0.out hb0; clear hb0
  have P0 := play_new w0 69
  have A0 : Below w0.heap.size w0 (w0.alloc (Obj.cells #[.bool true] 69)) := (Below.refl _ _).alloc (Nat.le_refl _) _
  have hB8 := Below.chain hB9 A0; clear hB9 A0
  have HP := Lib.hid P0; have H8 := Lib.hid hB8; clear P0 hB8
  refine Lib.hid ?_
  go_wp2_with fail
  have P0 := HP.out; have hB8 := H8.out; clear HP H8
  generalize w0.alloc (Obj.cells #[.bool true] 69) = W1 at *
  generalize w0.heap.size = b at *
  have K : ∀ W : World, Below W1.heap.size W1 W → PlayAt W b ∧ Below w.heap.size w W := fun W hW => ⟨P0.mono hW, Below.chain hB8 hW⟩
  have KK := Lib.hid K; clear K P0 hB8
  have hB0 := Below.refl W1.heap.size W1
  go_wp2_with (go_at_call 23; refine (K1.out _ (KK.out _ hB0).2).mono ?_; rintro e w1 ⟨rfl, hb1⟩; refine Hid.out ?_)
  have hB1 := Below.chain hB0 hb1; clear hb1 hB0
  refine Lib.hid ?_
  go_wp2_with (go_at_call 19; refine (K2.out _ (KK.out _ hB1).2).mono ?_; rintro e w2 ⟨rfl, hb2⟩; refine Hid.out ?_)
  have hB2 := Below.chain hB1 hb2; clear hb2 hB1
  refine Lib.hid ?_
  go_wp2_with (go_at_call 63; refine (KO.out _ _ _ (KK.out _ hB2).1).mono ?_; rintro e w3 ⟨rfl, h⟩; subst h; refine Hid.out ?_)
  refine Lib.hid ?_
  go_wp2_with (go_at_call 21; refine (K3.out _ (KK.out _ hB2).2).mono ?_; rintro e w4 ⟨rfl, hb4⟩; refine Hid.out ?_)
  have hB4 := Below.chain hB2 hb4; clear hb4 hB2
  refine Lib.hid ?_
  go_wp2_with (go_at_call 63; refine (KO.out _ _ _ (KK.out _ hB4).1).mono ?_; rintro e w5 ⟨rfl, h⟩; subst h; refine Hid.out ?_)
  refine Lib.hid ?_
  go_wp2_with (go_at_call 62; refine (K4.out _ _ (KK.out _ hB4).1 (KK.out _ hB4).2).mono ?_; rintro e w6 ⟨rfl, hb6⟩; refine Hid.out ?_)
  have hB6 := Below.chain hB4 hb6; clear hb6 hB4
  refine Lib.hid ?_
  go_wp2_with (go_at_call 62; refine (K5.out _ _ (KK.out _ hB6).1 (KK.out _ hB6).2).mono ?_; rintro e w7 ⟨rfl, hb7⟩; refine Hid.out ?_)
  have hB7 := Below.chain hB6 hb7; clear hb7 hB6
  refine Lib.hid ?_
  go_wp2_with (go_at_call 60; refine (K6.out _ _ (KK.out _ hB7).1 (KK.out _ hB7).2).mono ?_; rintro e w8 ⟨rfl, hb8⟩; refine Hid.out ?_)
  have hB8 := Below.chain hB7 hb8; clear hb8 hB7
  refine Lib.hid ?_
  go_wp2_with (go_at_call 62; refine (K7.out _ _ (KK.out _ hB8).1 (KK.out _ hB8).2).mono ?_; rintro e w9 ⟨rfl, hb9⟩; refine Hid.out ?_)
  have hB9 := Below.chain hB8 hb9; clear hb9 hB8
  refine Lib.hid ?_
  go_wp2_with (go_at_call 62; refine (K8.out _ _ (KK.out _ hB9).1 (KK.out _ hB9).2).mono ?_; rintro e w10 ⟨rfl, hb10⟩; refine Hid.out ?_)
  have hB10 := Below.chain hB9 hb10; clear hb10 hB9
  refine Lib.hid ?_
  go_wp2_with (go_at_call 64; refine (K9.out _ (KK.out _ hB10).2).mono ?_; rintro e w11 ⟨rfl, hb11⟩; refine Hid.out ?_)
  have hB11 := Below.chain hB10 hb11; clear hb11 hB10
  refine Lib.hid ?_
  go_wp2_with (go_at_call 63; refine (KO.out _ _ _ (KK.out _ hB11).1).mono ?_; rintro e w12 ⟨rfl, h⟩; subst h; refine Hid.out ?_)
  refine Lib.hid ?_
  go_wp2_with (go_at_call 65; refine (K10.out _ (KK.out _ hB11).2).mono ?_; rintro e w13 ⟨rfl, hb13⟩; refine Hid.out ?_)
  have hB13 := Below.chain hB11 hb13; clear hb13 hB11
  refine Lib.hid ?_
  go_wp2_with (go_at_call 63; refine (KO.out _ _ _ (KK.out _ hB13).1).mono ?_; rintro e w14 ⟨rfl, h⟩; subst h; refine Hid.out ?_)
  refine Lib.hid ?_
  go_wp2_with (go_at_call 66; refine (K11.out _ (KK.out _ hB13).2).mono ?_; rintro e w15 ⟨rfl, hb15⟩; refine Hid.out ?_)
  have hB15 := Below.chain hB13 hb15; clear hb15 hB13
  refine Lib.hid ?_
  go_wp2_with (go_at_call 63; refine (KO.out _ _ _ (KK.out _ hB15).1).mono ?_; rintro e w16 ⟨rfl, h⟩; subst h; refine Hid.out ?_)
  refine Lib.hid ?_
  go_wp2_with (go_at_call 56; refine (K12.out _ (KK.out _ hB15).2).mono ?_; rintro e w17 ⟨rfl, hb17⟩; refine Hid.out ?_)
  have hB17 := Below.chain hB15 hb17; clear hb17 hB15
  refine Lib.hid ?_
  go_wp2_with (go_at_call 56; refine (K13.out _ (KK.out _ hB17).2).mono ?_; rintro e w18 ⟨rfl, hb18⟩; refine Hid.out ?_)
  have hB18 := Below.chain hB17 hb18; clear hb18 hB17
  refine Lib.hid ?_
  go_wp2_with (go_at_call 64; refine (K14.out _ (KK.out _ hB18).2).mono ?_; rintro e w19 ⟨rfl, hb19⟩; refine Hid.out ?_)
  have hB19 := Below.chain hB18 hb19; clear hb19 hB18
  refine Lib.hid ?_
  go_wp2_with (go_at_call 63; refine (KO.out _ _ _ (KK.out _ hB19).1).mono ?_; rintro e w20 ⟨rfl, h⟩; subst h; refine Hid.out ?_)
  refine Lib.hid ?_
  go_wp2_with (go_at_call 64; refine (K15.out _ (KK.out _ hB19).2).mono ?_; rintro e w21 ⟨rfl, hb21⟩; refine Hid.out ?_)
  have hB21 := Below.chain hB19 hb21; clear hb21 hB19
  refine Lib.hid ?_
  go_wp2_with (go_at_call 63; refine (KO.out _ _ _ (KK.out _ hB21).1).mono ?_; rintro e w22 ⟨rfl, h⟩; subst h; refine Hid.out ?_)
  refine Lib.hid ?_
  go_wp2_with (go_at_call 67; refine (K16.out _ (KK.out _ hB21).2).mono ?_; rintro e w23 ⟨rfl, hb23⟩; refine Hid.out ?_)
  have hB23 := Below.chain hB21 hb23; clear hb23 hB21
  refine Lib.hid ?_
  go_wp2_with (go_at_call 66; refine (K17.out _ (KK.out _ hB23).2).mono ?_; rintro e w24 ⟨rfl, hb24⟩; refine Hid.out ?_)
  have hB24 := Below.chain hB23 hb24; clear hb24 hB23
  refine Lib.hid ?_
  go_wp2_with (go_at_call 63; refine (KO.out _ _ _ (KK.out _ hB24).1).mono ?_; rintro e w25 ⟨rfl, h⟩; subst h; refine Hid.out ?_)
  refine Lib.hid ?_
  go_wp2_with (go_at_call 66; refine (K18.out _ (KK.out _ hB24).2).mono ?_; rintro e w26 ⟨rfl, hb26⟩; refine Hid.out ?_)
  have hB26 := Below.chain hB24 hb26; clear hb26 hB24
  refine Lib.hid ?_
  go_wp2_with (go_at_call 63; refine (KO.out _ _ _ (KK.out _ hB26).1).mono ?_; rintro e w27 ⟨rfl, h⟩; subst h; refine Hid.out ?_)
  refine Lib.hid ?_
  go_wp2_with (go_at_call 62; refine (K19.out _ _ (KK.out _ hB26).1 (KK.out _ hB26).2).mono ?_; rintro e w28 ⟨rfl, hb28⟩; refine Hid.out ?_)
  have hB28 := Below.chain hB26 hb28; clear hb28 hB26
  refine Lib.hid ?_
  go_wp2_with (go_at_call 60; refine (K20.out _ _ (KK.out _ hB28).1 (KK.out _ hB28).2).mono ?_; rintro e w29 ⟨rfl, hb29⟩; refine Hid.out ?_)
  have hB29 := Below.chain hB28 hb29; clear hb29 hB28
  refine Lib.hid ?_
  have PL := (KK.out _ hB29).1
  have c0 := PL.cell; have f0 := PL.fr; have l0 := PL.lt; clear PL
  go_wp2_with (go_at_call 59; refine (KN.out _ (KK.out _ hB29).2).mono ?_; rintro e w31 ⟨rfl, hb31⟩; refine Hid.out ?_)
  have hB31 := Below.chain hB29 hb31; clear hb31 hB29
  refine Lib.hid ?_
  go_wp2
  refine bodyPost_ret (v := .bool true) (by simp [results, Tryz.results13, go_sem]) rfl ?_
  exact ⟨rfl, (KK.out _ hB31).2⟩

set_option maxRecDepth 20000 in
set_option maxHeartbeats 16000000 in
theorem tdiv_m (s t g u v m us vt st a q r ra ta qt : ByteArray) (w : World) (hne : (t.toList == [48]) = false)
    (C0 : Calls Tryz.prog 58 #[.slice (some ⟨w.heap.size, 0, none⟩) 2 2] (w.alloc (Obj.cells #[.string s, .string t] 22)) (Bret (.bool true) (w.alloc (Obj.cells #[.string s, .string t] 22))))
    (C1 : ∀ W : World, Below w.heap.size w W → Calls Tryz.prog 23 #[.string s, .string t] W (Bret (.tuple #[.string g, .string u, .string v, .int .i64 0]) W))
    (C2 : ∀ W : World, Below w.heap.size w W → Calls Tryz.prog 19 #[.string s, .string t] W (Bret (.tuple #[.string g, .int .i64 0]) W))
    (C3 : ∀ W : World, Below w.heap.size w W → Calls Tryz.prog 21 #[.string s, .string t] W (Bret (.tuple #[.string m, .int .i64 0]) W))
    (C4 : ∀ (b : Nat) (W : World), PlayAt W b → Below w.heap.size w W → Calls Tryz.prog 62 #[(.pointer (some ⟨b, 0, none⟩)), .string u, .string s] W (Bret (.string us) W))
    (C5 : ∀ (b : Nat) (W : World), PlayAt W b → Below w.heap.size w W → Calls Tryz.prog 62 #[(.pointer (some ⟨b, 0, none⟩)), .string v, .string t] W (Bret (.string vt) W))
    (C6 : ∀ (b : Nat) (W : World), PlayAt W b → Below w.heap.size w W → Calls Tryz.prog 60 #[(.pointer (some ⟨b, 0, none⟩)), .string us, .string vt] W (Bret (.string g) W))
    (C7 : ∀ (b : Nat) (W : World), PlayAt W b → Below w.heap.size w W → Calls Tryz.prog 62 #[(.pointer (some ⟨b, 0, none⟩)), .string m, .string g] W (Bret (.string a) W))
    (C8 : ∀ (b : Nat) (W : World), PlayAt W b → Below w.heap.size w W → Calls Tryz.prog 62 #[(.pointer (some ⟨b, 0, none⟩)), .string s, .string t] W (Bret (.string st) W))
    (C9 : ∀ W : World, Below w.heap.size w W → Calls Tryz.prog 64 #[.string st] W (Bret (.tuple #[.string a, .int .i64 0]) W))
    (C10 : ∀ W : World, Below w.heap.size w W → Calls Tryz.prog 65 #[.string s, .string t] W (Bret (.tuple #[.string q, .int .i64 0]) W))
    (C11 : ∀ W : World, Below w.heap.size w W → Calls Tryz.prog 66 #[.string s, .string t] W (Bret (.tuple #[.string r, .int .i64 0]) W))
    (C12 : ∀ W : World, Below w.heap.size w W → Calls Tryz.prog 56 #[.string r] W (Bret (.tuple #[.int .i64 (-1), .int .i64 0]) W))
    (C13 : ∀ W : World, Below w.heap.size w W → Calls Tryz.prog 56 #[.string t] W (Bret (.tuple #[.int .i64 (-1), .int .i64 0]) W))
    (C14 : ∀ W : World, Below w.heap.size w W → Calls Tryz.prog 64 #[.string r] W (Bret (.tuple #[.string ra, .int .i64 0]) W))
    (C15 : ∀ W : World, Below w.heap.size w W → Calls Tryz.prog 64 #[.string t] W (Bret (.tuple #[.string ta, .int .i64 0]) W))
    (C16 : ∀ W : World, Below w.heap.size w W → Calls Tryz.prog 67 #[.string ra, .string ta] W (Bret (.tuple #[.int .i64 (-1), .int .i64 0]) W))
    (C17 : ∀ W : World, Below w.heap.size w W → Calls Tryz.prog 66 #[.string s, .string g] W (Bret (.tuple #[.string ⟨#[48]⟩, .int .i64 0]) W))
    (C18 : ∀ W : World, Below w.heap.size w W → Calls Tryz.prog 66 #[.string t, .string g] W (Bret (.tuple #[.string ⟨#[48]⟩, .int .i64 0]) W))
    (C19 : ∀ (b : Nat) (W : World), PlayAt W b → Below w.heap.size w W → Calls Tryz.prog 62 #[(.pointer (some ⟨b, 0, none⟩)), .string q, .string t] W (Bret (.string qt) W))
    (C20 : ∀ (b : Nat) (W : World), PlayAt W b → Below w.heap.size w W → Calls Tryz.prog 60 #[(.pointer (some ⟨b, 0, none⟩)), .string qt, .string r] W (Bret (.string s) W))
    (CN : ∀ W : World, Below w.heap.size w W → Calls Tryz.prog 59 #[] W (Bret (.bool true) W)) :
    Calls Tryz.prog 13 #[.string s, .string t] w (Bret (.bool true) w) := by
  have CO : ∀ (r : ByteArray) (b : Nat) (W : World), PlayAt W b → Calls Tryz.prog 63 #[(.pointer (some ⟨b, 0, none⟩)), .string r, .int .i64 0] W (fun e w' => e = .returned (.string r) ∧ w' = W) := fun r b W hP => playI_of r b W hP
  have B0 : Below w.heap.size w (w.alloc (Obj.cells #[.string s, .string t] 22)) := (Below.refl _ _).alloc (Nat.le_refl _) _
  have K0 := Lib.hid C0; have K1 := Lib.hid C1; have K2 := Lib.hid C2; have K3 := Lib.hid C3; have K4 := Lib.hid C4; have K5 := Lib.hid C5; have K6 := Lib.hid C6; have K7 := Lib.hid C7; have K8 := Lib.hid C8; have K9 := Lib.hid C9; have K10 := Lib.hid C10; have K11 := Lib.hid C11; have K12 := Lib.hid C12; have K13 := Lib.hid C13; have K14 := Lib.hid C14; have K15 := Lib.hid C15; have K16 := Lib.hid C16; have K17 := Lib.hid C17; have K18 := Lib.hid C18; have K19 := Lib.hid C19; have K20 := Lib.hid C20; have KO := Lib.hid CO; have KN := Lib.hid CN; have HB0 := Lib.hid B0
  clear C0 C1 C2 C3 C4 C5 C6 C7 C8 C9 C10 C11 C12 C13 C14 C15 C16 C17 C18 C19 C20 CO CN B0
  go_enter Tryz.func13, Tryz.ntmps13
  go_wp2_with (go_at_call 58; refine K0.out.mono ?_; rintro e w0 ⟨rfl, hb0⟩; refine Hid.out ?_)
  have hB9 := Below.chain HB0.out hb0; clear hb0
  have P0 := play_new w0 69
  have A0 : Below w0.heap.size w0 (w0.alloc (Obj.cells #[.bool true] 69)) := (Below.refl _ _).alloc (Nat.le_refl _) _
  have hB8 := Below.chain hB9 A0; clear hB9 A0
  have HP := Lib.hid P0; have H8 := Lib.hid hB8; clear P0 hB8
  refine Lib.hid ?_
  go_wp2_with fail
  have P0 := HP.out; have hB8 := H8.out; clear HP H8
  generalize w0.alloc (Obj.cells #[.bool true] 69) = W1 at *
  generalize w0.heap.size = b at *
  have K : ∀ W : World, Below W1.heap.size W1 W → PlayAt W b ∧ Below w.heap.size w W := fun W hW => ⟨P0.mono hW, Below.chain hB8 hW⟩
  have KK := Lib.hid K; clear K P0 hB8
  have hB0 := Below.refl W1.heap.size W1
  go_wp2_with (go_at_call 23; refine (K1.out _ (KK.out _ hB0).2).mono ?_; rintro e w1 ⟨rfl, hb1⟩; refine Hid.out ?_)
  have hB1 := Below.chain hB0 hb1; clear hb1 hB0
  refine Lib.hid ?_
  go_wp2_with (go_at_call 19; refine (K2.out _ (KK.out _ hB1).2).mono ?_; rintro e w2 ⟨rfl, hb2⟩; refine Hid.out ?_)
  have hB2 := Below.chain hB1 hb2; clear hb2 hB1
  refine Lib.hid ?_
  go_wp2_with (go_at_call 63; refine (KO.out _ _ _ (KK.out _ hB2).1).mono ?_; rintro e w3 ⟨rfl, h⟩; subst h; refine Hid.out ?_)
  refine Lib.hid ?_
  go_wp2_with (go_at_call 21; refine (K3.out _ (KK.out _ hB2).2).mono ?_; rintro e w4 ⟨rfl, hb4⟩; refine Hid.out ?_)
  have hB4 := Below.chain hB2 hb4; clear hb4 hB2
  refine Lib.hid ?_
  go_wp2_with (go_at_call 63; refine (KO.out _ _ _ (KK.out _ hB4).1).mono ?_; rintro e w5 ⟨rfl, h⟩; subst h; refine Hid.out ?_)
  refine Lib.hid ?_
  go_wp2_with (go_at_call 62; refine (K4.out _ _ (KK.out _ hB4).1 (KK.out _ hB4).2).mono ?_; rintro e w6 ⟨rfl, hb6⟩; refine Hid.out ?_)
  have hB6 := Below.chain hB4 hb6; clear hb6 hB4
  refine Lib.hid ?_
  go_wp2_with (go_at_call 62; refine (K5.out _ _ (KK.out _ hB6).1 (KK.out _ hB6).2).mono ?_; rintro e w7 ⟨rfl, hb7⟩; refine Hid.out ?_)
  have hB7 := Below.chain hB6 hb7; clear hb7 hB6
  refine Lib.hid ?_
  go_wp2_with (go_at_call 60; refine (K6.out _ _ (KK.out _ hB7).1 (KK.out _ hB7).2).mono ?_; rintro e w8 ⟨rfl, hb8⟩; refine Hid.out ?_)
  have hB8 := Below.chain hB7 hb8; clear hb8 hB7
  refine Lib.hid ?_
  go_wp2_with (go_at_call 62; refine (K7.out _ _ (KK.out _ hB8).1 (KK.out _ hB8).2).mono ?_; rintro e w9 ⟨rfl, hb9⟩; refine Hid.out ?_)
  have hB9 := Below.chain hB8 hb9; clear hb9 hB8
  refine Lib.hid ?_
  go_wp2_with (go_at_call 62; refine (K8.out _ _ (KK.out _ hB9).1 (KK.out _ hB9).2).mono ?_; rintro e w10 ⟨rfl, hb10⟩; refine Hid.out ?_)
  have hB10 := Below.chain hB9 hb10; clear hb10 hB9
  refine Lib.hid ?_
  go_wp2_with (go_at_call 64; refine (K9.out _ (KK.out _ hB10).2).mono ?_; rintro e w11 ⟨rfl, hb11⟩; refine Hid.out ?_)
  have hB11 := Below.chain hB10 hb11; clear hb11 hB10
  refine Lib.hid ?_
  go_wp2_with (go_at_call 63; refine (KO.out _ _ _ (KK.out _ hB11).1).mono ?_; rintro e w12 ⟨rfl, h⟩; subst h; refine Hid.out ?_)
  refine Lib.hid ?_
  go_wp2_with (go_at_call 65; refine (K10.out _ (KK.out _ hB11).2).mono ?_; rintro e w13 ⟨rfl, hb13⟩; refine Hid.out ?_)
  have hB13 := Below.chain hB11 hb13; clear hb13 hB11
  refine Lib.hid ?_
  go_wp2_with (go_at_call 63; refine (KO.out _ _ _ (KK.out _ hB13).1).mono ?_; rintro e w14 ⟨rfl, h⟩; subst h; refine Hid.out ?_)
  refine Lib.hid ?_
  go_wp2_with (go_at_call 66; refine (K11.out _ (KK.out _ hB13).2).mono ?_; rintro e w15 ⟨rfl, hb15⟩; refine Hid.out ?_)
  have hB15 := Below.chain hB13 hb15; clear hb15 hB13
  refine Lib.hid ?_
  go_wp2_with (go_at_call 63; refine (KO.out _ _ _ (KK.out _ hB15).1).mono ?_; rintro e w16 ⟨rfl, h⟩; subst h; refine Hid.out ?_)
  refine Lib.hid ?_
  go_wp2_with (go_at_call 56; refine (K12.out _ (KK.out _ hB15).2).mono ?_; rintro e w17 ⟨rfl, hb17⟩; refine Hid.out ?_)
  have hB17 := Below.chain hB15 hb17; clear hb17 hB15
  refine Lib.hid ?_
  go_wp2_with (go_at_call 56; refine (K13.out _ (KK.out _ hB17).2).mono ?_; rintro e w18 ⟨rfl, hb18⟩; refine Hid.out ?_)
  have hB18 := Below.chain hB17 hb18; clear hb18 hB17
  refine Lib.hid ?_
  go_wp2_with (go_at_call 64; refine (K14.out _ (KK.out _ hB18).2).mono ?_; rintro e w19 ⟨rfl, hb19⟩; refine Hid.out ?_)
  have hB19 := Below.chain hB18 hb19; clear hb19 hB18
  refine Lib.hid ?_
  go_wp2_with (go_at_call 63; refine (KO.out _ _ _ (KK.out _ hB19).1).mono ?_; rintro e w20 ⟨rfl, h⟩; subst h; refine Hid.out ?_)
  refine Lib.hid ?_
  go_wp2_with (go_at_call 64; refine (K15.out _ (KK.out _ hB19).2).mono ?_; rintro e w21 ⟨rfl, hb21⟩; refine Hid.out ?_)
  have hB21 := Below.chain hB19 hb21; clear hb21 hB19
  refine Lib.hid ?_
  go_wp2_with (go_at_call 63; refine (KO.out _ _ _ (KK.out _ hB21).1).mono ?_; rintro e w22 ⟨rfl, h⟩; subst h; refine Hid.out ?_)
  refine Lib.hid ?_
  go_wp2_with (go_at_call 67; refine (K16.out _ (KK.out _ hB21).2).mono ?_; rintro e w23 ⟨rfl, hb23⟩; refine Hid.out ?_)
  have hB23 := Below.chain hB21 hb23; clear hb23 hB21
  refine Lib.hid ?_
  go_wp2_with (go_at_call 66; refine (K17.out _ (KK.out _ hB23).2).mono ?_; rintro e w24 ⟨rfl, hb24⟩; refine Hid.out ?_)
  have hB24 := Below.chain hB23 hb24; clear hb24 hB23
  refine Lib.hid ?_
  go_wp2_with (go_at_call 63; refine (KO.out _ _ _ (KK.out _ hB24).1).mono ?_; rintro e w25 ⟨rfl, h⟩; subst h; refine Hid.out ?_)
  refine Lib.hid ?_
  go_wp2_with (go_at_call 66; refine (K18.out _ (KK.out _ hB24).2).mono ?_; rintro e w26 ⟨rfl, hb26⟩; refine Hid.out ?_)
  have hB26 := Below.chain hB24 hb26; clear hb26 hB24
  refine Lib.hid ?_
  go_wp2_with (go_at_call 63; refine (KO.out _ _ _ (KK.out _ hB26).1).mono ?_; rintro e w27 ⟨rfl, h⟩; subst h; refine Hid.out ?_)
  refine Lib.hid ?_
  go_wp2_with (go_at_call 62; refine (K19.out _ _ (KK.out _ hB26).1 (KK.out _ hB26).2).mono ?_; rintro e w28 ⟨rfl, hb28⟩; refine Hid.out ?_)
  have hB28 := Below.chain hB26 hb28; clear hb28 hB26
  refine Lib.hid ?_
  go_wp2_with (go_at_call 60; refine (K20.out _ _ (KK.out _ hB28).1 (KK.out _ hB28).2).mono ?_; rintro e w29 ⟨rfl, hb29⟩; refine Hid.out ?_)
  have hB29 := Below.chain hB28 hb29; clear hb29 hB28
  refine Lib.hid ?_
  have PL := (KK.out _ hB29).1
  have c0 := PL.cell; have f0 := PL.fr; have l0 := PL.lt; clear PL
  go_wp2_with (go_at_call 59; refine (KN.out _ (KK.out _ hB29).2).mono ?_; rintro e w31 ⟨rfl, hb31⟩; refine Hid.out ?_)
  have hB31 := Below.chain hB29 hb31; clear hb31 hB29
  refine Lib.hid ?_
  go_wp2
  refine bodyPost_ret (v := .bool true) (by simp [results, Tryz.results13, go_sem]) rfl ?_
  exact ⟨rfl, (KK.out _ hB31).2⟩

set_option maxRecDepth 20000 in
set_option maxHeartbeats 4000000 in
theorem tdiv_awake (s t : ByteArray) (w : World)
    (C0 : Calls Tryz.prog 58 #[.slice (some ⟨w.heap.size, 0, none⟩) 2 2] (w.alloc (Obj.cells #[.string s, .string t] 22)) (Bret (.bool false) (w.alloc (Obj.cells #[.string s, .string t] 22))))
    (CN : ∀ W : World, Below w.heap.size w W → Calls Tryz.prog 59 #[] W (Bret (.bool true) W)) :
    Calls Tryz.prog 13 #[.string s, .string t] w (Bret (.bool true) w) := by
  have B0 : Below w.heap.size w (w.alloc (Obj.cells #[.string s, .string t] 22)) := (Below.refl _ _).alloc (Nat.le_refl _) _
  have K0 := Lib.hid C0; have K1 := Lib.hid CN; have HB0 := Lib.hid B0
  clear C0 CN B0
  go_enter Tryz.func13, Tryz.ntmps13
  go_wp2_with (go_at_call 58; refine K0.out.mono ?_; rintro e w0 ⟨rfl, hb0⟩; refine Hid.out ?_)
  have hB0 := Below.chain HB0.out hb0; clear hb0
  refine Lib.hid ?_
  go_wp2_with (go_at_call 59; refine (K1.out _ hB0).mono ?_; rintro e w1 ⟨rfl, hb1⟩; refine Hid.out ?_)
  have hB1 := Below.chain hB0 hb1; clear hb1 hB0
  refine Lib.hid ?_
  go_wp2
  refine bodyPost_ret (v := .bool true) (by simp [results, Tryz.results13, go_sem]) rfl ?_
  exact ⟨rfl, hB1⟩

theorem fmod_sign (x y : Int) (hy : y ≠ 0) : (cmpI (x.fmod y) 0 = 0) ∨ (cmpI (x.fmod y) 0 = 1 ∧ cmpI y 0 = 1) ∨ (cmpI (x.fmod y) 0 = -1 ∧ cmpI y 0 = -1) := by
  by_cases h0 : x.fmod y = 0
  · left; rw [h0]; rfl
  · right
    by_cases hy0 : y < 0
    · right
      have : x.fmod y < 0 := by
        by_cases hx0 : x < 0
        · rw [fmod_nn x y hx0 hy0] at h0 ⊢; omega
        · rw [fmod_pn x y hy hx0 hy0] at h0 ⊢; omega
      exact ⟨cmpI_lt this, cmpI_lt hy0⟩
    · left
      have := fmod_nonneg x y (by omega)
      exact ⟨cmpI_gt (by omega), cmpI_gt (by omega)⟩
theorem sz_near {k : Nat} {x u : Int} (h : Sz k x) (hu : u.natAbs ≤ x.natAbs + 1) : Sz (k + 1) u := by
  unfold Sz at *
  rw [Nat.pow_succ]
  have : 0 < 10 ^ k := Nat.pow_pos (by decide)
  omega
theorem lcm_gcd (x y : Int) : lcmI x y * gcdI x y = ((x * y).natAbs : Int) := by
  by_cases h : gcdI x y = 0
  · obtain ⟨rfl, rfl⟩ := gcdI_zero.1 h
    rw [h]; simp
  · have hp := gcdI_nonneg x y
    obtain ⟨a, ha⟩ : gcdI x y ∣ x := Int.gcd_dvd_left ..
    unfold lcmI
    generalize gcdI x y = g at *
    subst ha
    rw [Int.mul_fdiv_cancel_left _ h, Int.mul_assoc, Int.natAbs_mul g, Int.natCast_mul, Int.natAbs_of_nonneg hp, Int.mul_comm]
theorem lcm_sz {k : Nat} {x y : Int} (hx : Sz k x) (hy : Sz k y) (hk : 0 < k) : Sz (k + k) (lcmI x y) := by
  have h2 : (x.fdiv (gcdI x y)).natAbs < 10 ^ k := by
    by_cases h : gcdI x y = 0
    · rw [h, Int.fdiv_zero]; exact Nat.pow_pos (by decide)
    · exact Nat.lt_of_le_of_lt (fdiv_le _ _ h) hx
  have h3 := Sz.mul (show Sz k (x.fdiv (gcdI x y)) from h2) hy
  unfold lcmI
  unfold Sz at *
  rwa [Int.natAbs_natCast]
theorem gcd_sz {k : Nat} {x y : Int} (hx : Sz k x) (hy : Sz k y) : Sz k (gcdI x y) := by
  unfold gcdI Sz
  rw [Int.natAbs_natCast]
  exact gcd_le x y _ hx hy
theorem abs_sz {k : Nat} {x : Int} (hx : Sz k x) : Sz k (x.natAbs : Int) := by unfold Sz at *; rwa [Int.natAbs_natCast]
theorem opR_at {s t : ByteArray} {x y : Int} (f : Int → Int → Int) (hs : Str s x) (ht : Str t y) : opR f (bytes s) (bytes t) = resV (f x y) := by
  unfold opR errBoth
  rw [hs.err, if_pos rfl, ht.err, if_pos rfl, hs.text, ht.text, valZ_itoa, valZ_itoa]

theorem tdiv_main (s t : ByteArray) (x y : Int) (w : World) (hs : Str s x) (ht : Str t y) (hx : Sz 400 x) (hy : Sz 400 y)
    (C0 : Calls Tryz.prog 58 #[.slice (some ⟨w.heap.size, 0, none⟩) 2 2] (w.alloc (Obj.cells #[.string s, .string t] 22)) (Bret (.bool true) (w.alloc (Obj.cells #[.string s, .string t] 22))))
    (htab : Lib.TabIs Tryz.prog w "internal/strconv.uint64pow10" .u64 Lib.pow10Tab) :
    Calls Tryz.prog 13 #[.string s, .string t] w (Bret (.bool true) w) := by
  have hT := Lib.tabBelow_of_tabIs htab
  have hlen : s.size ≤ 9223372036854775807 := by have := hs.size; omega
  have hlen2 : t.size ≤ 9223372036854775807 := by have := ht.size; omega
  obtain ⟨e1, e2, e3, e4⟩ := bezOf_spec x y
  have zg := gcd_sz hx hy
  have zu := sz_near hy e3; have zv := sz_near hx e4
  have zl := lcm_sz hx hy (by decide)
  have sg := zg.str (by decide) (by decide); have su := zu.str (by decide) (by decide); have sv := zv.str (by decide) (by decide); have sl := zl.str (by decide) (by decide)
  have zus := zu.mul hx; have zvt := zv.mul hy
  have sus := zus.str (by decide) (by decide); have svt := zvt.str (by decide) (by decide)
  have zst := hx.mul hy; have sst := zst.str (by decide) (by decide)
  have CN : ∀ W : World, Below w.heap.size w W → Calls Tryz.prog 59 #[] W (Bret (.bool true) W) := fun W hW => playNumbers_any W (hT.on hW).here
  have C1 : ∀ W : World, Below w.heap.size w W → Calls Tryz.prog 23 #[.string s, .string t] W (Bret (.tuple #[.string (str (Lib.itoa (gcdI x y))), .string (str (Lib.itoa ((bezOf x y).2.1))), .string (str (Lib.itoa ((bezOf x y).2.2))), .int .i64 0]) W) := fun W hW => by
    have := bezoutZ s t x y W hs ht (hT.on hW).here; unfold bezV at this; rwa [show (bezOf x y).1 = gcdI x y from e1] at this
  have C2 : ∀ W : World, Below w.heap.size w W → Calls Tryz.prog 19 #[.string s, .string t] W (Bret (.tuple #[.string (str (Lib.itoa (gcdI x y))), .int .i64 0]) W) := fun W hW => by
    have := bigGcdR s t W hlen hlen2 (hT.on hW).here; rwa [opR_at gcdI hs ht, resV_fits (zg.fits (by decide) (by decide))] at this
  have C3 : ∀ W : World, Below w.heap.size w W → Calls Tryz.prog 21 #[.string s, .string t] W (Bret (.tuple #[.string (str (Lib.itoa (lcmI x y))), .int .i64 0]) W) := fun W hW => by
    have := bigLcmR s t W hlen hlen2 (hT.on hW).here; rwa [opR_at lcmI hs ht, resV_fits (zl.fits (by decide) (by decide))] at this
  have C4 : ∀ (b : Nat) (W : World), PlayAt W b → Below w.heap.size w W → Calls Tryz.prog 62 #[(.pointer (some ⟨b, 0, none⟩)), .string (str (Lib.itoa ((bezOf x y).2.1))), .string s] W (Bret (.string (str (Lib.itoa ((bezOf x y).2.1 * x)))) W) := fun b W hP hW => by
    have := pImul su hs zu hx w htab (by decide) (by decide) b W hP hW; exact this
  have C5 : ∀ (b : Nat) (W : World), PlayAt W b → Below w.heap.size w W → Calls Tryz.prog 62 #[(.pointer (some ⟨b, 0, none⟩)), .string (str (Lib.itoa ((bezOf x y).2.2))), .string t] W (Bret (.string (str (Lib.itoa ((bezOf x y).2.2 * y)))) W) := fun b W hP hW => by
    have := pImul sv ht zv hy w htab (by decide) (by decide) b W hP hW; exact this
  have C6 : ∀ (b : Nat) (W : World), PlayAt W b → Below w.heap.size w W → Calls Tryz.prog 60 #[(.pointer (some ⟨b, 0, none⟩)), .string (str (Lib.itoa ((bezOf x y).2.1 * x))), .string (str (Lib.itoa ((bezOf x y).2.2 * y)))] W (Bret (.string (str (Lib.itoa (gcdI x y)))) W) := fun b W hP hW => by
    have := pIadd sus svt zus zvt w htab (by decide) (by decide) b W hP hW; rwa [show (bezOf x y).2.1 * x + (bezOf x y).2.2 * y = gcdI x y by rw [Int.mul_comm _ x, Int.mul_comm _ y]; exact e2] at this
  have C7 : ∀ (b : Nat) (W : World), PlayAt W b → Below w.heap.size w W → Calls Tryz.prog 62 #[(.pointer (some ⟨b, 0, none⟩)), .string (str (Lib.itoa (lcmI x y))), .string (str (Lib.itoa (gcdI x y)))] W (Bret (.string (str (Lib.itoa (((x * y).natAbs : Int))))) W) := fun b W hP hW => by
    have := pImul sl sg zl zg w htab (by decide) (by decide) b W hP hW; rwa [lcm_gcd] at this
  have C8 : ∀ (b : Nat) (W : World), PlayAt W b → Below w.heap.size w W → Calls Tryz.prog 62 #[(.pointer (some ⟨b, 0, none⟩)), .string s, .string t] W (Bret (.string (str (Lib.itoa (x * y)))) W) := fun b W hP hW => by
    have := pImul hs ht hx hy w htab (by decide) (by decide) b W hP hW; exact this
  have C9 : ∀ W : World, Below w.heap.size w W → Calls Tryz.prog 64 #[.string (str (Lib.itoa (x * y)))] W (Bret (.tuple #[.string (str (Lib.itoa (((x * y).natAbs : Int)))), .int .i64 0]) W) := fun W hW => by
    exact bret_same (absZ _ _ W sst)
  by_cases hy0 : y = 0
  · subst hy0
    obtain rfl := txt_is_zero ht.text
    have C10 : ∀ W : World, Below w.heap.size w W → Calls Tryz.prog 65 #[.string s, .string ⟨#[48]⟩] W (Bret (.tuple #[.string ⟨#[]⟩, .int .i64 19]) W) := fun W hW => by
      exact quo_zero s W hlen hs.err
    have C11 : ∀ W : World, Below w.heap.size w W → Calls Tryz.prog 64 #[.string s] W (Bret (.tuple #[.string (str (Lib.itoa (gcdI x 0))), .int .i64 0]) W) := fun W hW => by
      have := bret_same (absZ s x W hs); rwa [show (x.natAbs : Int) = gcdI x 0 by unfold gcdI; rw [Int.gcd_zero_right]] at this
    exact tdiv_z s _ _ _ _ _ _ _ _ w C0 C1 C2 C3 C4 C5 C6 C7 C8 C9 C10 C11 CN
  · have hg0 : gcdI x y ≠ 0 := fun e => hy0 (gcdI_zero.1 e).2
    have hne := eq48 t (ht.ne_zero hy0)
    have zq : Sz 400 (x.fdiv y) := Nat.lt_of_le_of_lt (fdiv_le x y hy0) hx
    have zr : Sz 400 (x.fmod y) := Nat.lt_trans (fmod_natAbs_lt x y hy0) hy
    have sq := zq.str (by decide) (by decide); have sr := zr.str (by decide) (by decide)
    have sra := (abs_sz zr).str (by decide) (by decide); have sta := (abs_sz hy).str (by decide) (by decide)
    have zqt := zq.mul hy; have sqt := zqt.str (by decide) (by decide)
    have d1 : gcdI x y ∣ x := Int.gcd_dvd_left ..
    have d2 : gcdI x y ∣ y := Int.gcd_dvd_right ..
    have hlt := fmod_natAbs_lt x y hy0
    have hst := step_fmod x y
    have C10 : ∀ W : World, Below w.heap.size w W → Calls Tryz.prog 65 #[.string s, .string t] W (Bret (.tuple #[.string (str (Lib.itoa (x.fdiv y))), .int .i64 0]) W) := fun W hW => by
      have := quoZ s t x y W hs ht hy0 (hT.on hW).here; rwa [resV_fits (zq.fits (by decide) (by decide))] at this
    have C11 : ∀ W : World, Below w.heap.size w W → Calls Tryz.prog 66 #[.string s, .string t] W (Bret (.tuple #[.string (str (Lib.itoa (x.fmod y))), .int .i64 0]) W) := fun W hW => by
      have := remZ s t x y W hs ht hy0 (hT.on hW).here; rwa [resV_fits (zr.fits (by decide) (by decide))] at this
    have C12 : ∀ W : World, Below w.heap.size w W → Calls Tryz.prog 56 #[.string (str (Lib.itoa (x.fmod y)))] W (Bret (.tuple #[.int .i64 (cmpI (x.fmod y) 0), .int .i64 0]) W) := fun W hW => by
      exact bret_same (signS _ _ W sr)
    have C13 : ∀ W : World, Below w.heap.size w W → Calls Tryz.prog 56 #[.string t] W (Bret (.tuple #[.int .i64 (cmpI y 0), .int .i64 0]) W) := fun W hW => by
      exact bret_same (signS _ _ W ht)
    have C14 : ∀ W : World, Below w.heap.size w W → Calls Tryz.prog 64 #[.string (str (Lib.itoa (x.fmod y)))] W (Bret (.tuple #[.string (str (Lib.itoa (((x.fmod y).natAbs : Int)))), .int .i64 0]) W) := fun W hW => by
      exact bret_same (absZ _ _ W sr)
    have C15 : ∀ W : World, Below w.heap.size w W → Calls Tryz.prog 64 #[.string t] W (Bret (.tuple #[.string (str (Lib.itoa ((y.natAbs : Int)))), .int .i64 0]) W) := fun W hW => by
      exact bret_same (absZ _ _ W ht)
    have C16 : ∀ W : World, Below w.heap.size w W → Calls Tryz.prog 67 #[.string (str (Lib.itoa (((x.fmod y).natAbs : Int)))), .string (str (Lib.itoa ((y.natAbs : Int))))] W (Bret (.tuple #[.int .i64 (-1), .int .i64 0]) W) := fun W hW => by
      have := bret_same (compareS _ _ _ _ W sra sta); rwa [cmpI_lt (by omega)] at this
    have C17 : ∀ W : World, Below w.heap.size w W → Calls Tryz.prog 66 #[.string s, .string (str (Lib.itoa (gcdI x y)))] W (Bret (.tuple #[.string ⟨#[48]⟩, .int .i64 0]) W) := fun W hW => by
      have := remZ _ _ _ _ W hs sg hg0 (hT.on hW).here; rwa [fmod_of_dvd d1, resV_lit str_zero] at this
    have C18 : ∀ W : World, Below w.heap.size w W → Calls Tryz.prog 66 #[.string t, .string (str (Lib.itoa (gcdI x y)))] W (Bret (.tuple #[.string ⟨#[48]⟩, .int .i64 0]) W) := fun W hW => by
      have := remZ _ _ _ _ W ht sg hg0 (hT.on hW).here; rwa [fmod_of_dvd d2, resV_lit str_zero] at this
    have C19 : ∀ (b : Nat) (W : World), PlayAt W b → Below w.heap.size w W → Calls Tryz.prog 62 #[(.pointer (some ⟨b, 0, none⟩)), .string (str (Lib.itoa (x.fdiv y))), .string t] W (Bret (.string (str (Lib.itoa (x.fdiv y * y)))) W) := fun b W hP hW => by
      have := pImul sq ht zq hy w htab (by decide) (by decide) b W hP hW; exact this
    have C20 : ∀ (b : Nat) (W : World), PlayAt W b → Below w.heap.size w W → Calls Tryz.prog 60 #[(.pointer (some ⟨b, 0, none⟩)), .string (str (Lib.itoa (x.fdiv y * y))), .string (str (Lib.itoa (x.fmod y)))] W (Bret (.string s) W) := fun b W hP hW => by
      have := pIadd sqt sr zqt zr w htab (by decide) (by decide) b W hP hW; rwa [show x.fdiv y * y + x.fmod y = x by omega, lit_str hs] at this
    rcases fmod_sign x y hy0 with h | ⟨h, k⟩ | ⟨h, k⟩
    · rw [h] at C12
      exact tdiv_0 s t _ _ _ _ _ _ _ _ _ _ _ _ _ _ w hne C0 C1 C2 C3 C4 C5 C6 C7 C8 C9 C10 C11 C12 C13 C14 C15 C16 C17 C18 C19 C20 CN
    · rw [h] at C12
      rw [k] at C13
      exact tdiv_p s t _ _ _ _ _ _ _ _ _ _ _ _ _ w hne C0 C1 C2 C3 C4 C5 C6 C7 C8 C9 C10 C11 C12 C13 C14 C15 C16 C17 C18 C19 C20 CN
    · rw [h] at C12
      rw [k] at C13
      exact tdiv_m s t _ _ _ _ _ _ _ _ _ _ _ _ _ w hne C0 C1 C2 C3 C4 C5 C6 C7 C8 C9 C10 C11 C12 C13 C14 C15 C16 C17 C18 C19 C20 CN

theorem tdiv_walk (s t : ByteArray) (w : World) (hs : s.size ≤ 9223372036854775807) (ht : t.size ≤ 9223372036854775807)
    (htab : Lib.TabIs Tryz.prog w "internal/strconv.uint64pow10" .u64 Lib.pow10Tab) :
    Calls Tryz.prog 13 #[.string s, .string t] w fun e w' => e = .returned (.bool true) ∧ Below w.heap.size w w' := by
  have hT := Lib.tabBelow_of_tabIs htab
  have C0 := whole_two s t w hs ht
  cases hr : wholeB s && wholeB t
  · rw [hr] at C0
    exact tdiv_awake s t w C0 (fun W hW => playNumbers_any W (hT.on hW).here)
  · rw [hr] at C0
    rw [Bool.and_eq_true] at hr
    obtain ⟨a1, a2⟩ := whole_str hr.1
    obtain ⟨b1, b2⟩ := whole_str hr.2
    exact tdiv_main s t _ _ w a1 b1 a2 b2 C0 htab
end Go.Proofs.YtbadibbdoljjhaaGreatDoor

