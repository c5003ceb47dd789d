import Derived.Test.YtbadibbdoljjhaaGreatDoorTr1

set_option linter.unusedVariables false
/-
  TopRationalsRounded: the walk.
-/
namespace Go.Proofs.YtbadibbdoljjhaaGreatDoor
open Go Go.Proofs Go.RowKit


set_option maxRecDepth 20000 in
set_option maxHeartbeats 16000000 in
theorem tround_wz (s k f c n : ByteArray) (w : World) (hk : (k.toList == [48]) = true)
    (C0 : Calls Tryz.prog 71 #[.slice (some ⟨w.heap.size, 0, none⟩) 1 1] (w.alloc (Obj.cells #[.string s] 35)) (Bret (.bool true) (w.alloc (Obj.cells #[.string s] 35))))
    (CW : ∀ W : World, Calls Tryz.prog 58 #[.slice (some ⟨W.heap.size, 0, none⟩) 1 1] (W.alloc (Obj.cells #[.string k] 22)) (Bret (.bool true) (W.alloc (Obj.cells #[.string k] 22))))
    (C1 : ∀ W : World, Below w.heap.size w W → Calls Tryz.prog 30 #[.string s] W (Bret (.tuple #[.string f, .int .i64 0]) W))
    (C2 : ∀ W : World, Below w.heap.size w W → Calls Tryz.prog 31 #[.string s] W (Bret (.tuple #[.string c, .int .i64 0]) W))
    (C3 : ∀ W : World, Below w.heap.size w W → Calls Tryz.prog 27 #[.string s] W (Bret (.tuple #[.string n, .int .i64 0]) W))
    (C4 : ∀ W : World, Below w.heap.size w W → Calls Tryz.prog 28 #[.string s] W (Bret (.tuple #[.string ⟨#[49]⟩, .int .i64 0]) W))
    (C5 : ∀ W : World, Below w.heap.size w W → Calls Tryz.prog 19 #[.string n, .string ⟨#[49]⟩] W (Bret (.tuple #[.string ⟨#[49]⟩, .int .i64 0]) W))
    (C6 : ∀ W : World, Below w.heap.size w W → Calls Tryz.prog 56 #[.string ⟨#[49]⟩] W (Bret (.tuple #[.int .i64 1, .int .i64 0]) W))
    (C7 : ∀ W : World, Below w.heap.size w W → Calls Tryz.prog 39 #[.string n, .string ⟨#[49]⟩] W (Bret (.tuple #[.string s, .int .i64 0]) W))
    (C8 : ∀ (b : Nat) (W : World), PlayAt W b → Below w.heap.size w W → Calls Tryz.prog 76 #[(.pointer (some ⟨b, 0, none⟩)), .string f, .string s] W (Bret (.int .i64 0) W))
    (C9 : ∀ (b : Nat) (W : World), PlayAt W b → Below w.heap.size w W → Calls Tryz.prog 76 #[(.pointer (some ⟨b, 0, none⟩)), .string s, .string c] W (Bret (.int .i64 0) W))
    (C10 : ∀ W : World, Below w.heap.size w W → Calls Tryz.prog 53 #[.string c, .string f] W (Bret (.tuple #[.string ⟨#[48]⟩, .int .i64 0]) W))
    (CN : ∀ W : World, Below w.heap.size w W → Calls Tryz.prog 59 #[] W (Bret (.bool true) W)) :
    Calls Tryz.prog 16 #[.string s, .string k] w (Bret (.bool true) w) := by
  have B0 : Below w.heap.size w (w.alloc (Obj.cells #[.string s] 35)) := (Below.refl _ _).alloc (Nat.le_refl _) _
  have K0 := Lib.hid C0; have K1 := Lib.hid C1; have K2 := Lib.hid C2; have K3 := Lib.hid C3; have K4 := Lib.hid C4; have K5 := Lib.hid C5; have K6 := Lib.hid C6; have K7 := Lib.hid C7; have K8 := Lib.hid C8; have K9 := Lib.hid C9; have K10 := Lib.hid C10; have KW := Lib.hid CW; have KN := Lib.hid CN; have HB0 := Lib.hid B0
  clear C0 C1 C2 C3 C4 C5 C6 C7 C8 C9 C10 CW CN B0
  go_enter Tryz.func16, Tryz.ntmps16
  go_wp2_with (go_at_call 71; refine K0.out.mono ?_; rintro e w7 ⟨rfl, hb7⟩; refine Hid.out ?_)
  have hB7 := Below.chain HB0.out hb7; clear hb7
  have A7 : Below w7.heap.size w7 (w7.alloc (Obj.cells #[.string k] 22)) := (Below.refl _ _).alloc (Nat.le_refl _) _
  have hB6 := Below.chain hB7 A7; clear hB7 A7
  have H6 := Lib.hid hB6; clear hB6
  refine Lib.hid ?_
  go_wp2_with (go_at_call 58; refine (KW.out _).mono ?_; rintro e w0 ⟨rfl, hb0⟩; refine Hid.out ?_)
  have hB9 := Below.chain H6.out hb0; clear hb0 H6
  have P0 := play_new w0 76
  have A0 : Below w0.heap.size w0 (w0.alloc (Obj.cells #[.bool true] 76)) := (Below.refl _ _).alloc (Nat.le_refl _) _
  have hB8 := Below.chain hB9 A0; clear hB9 A0
  have HP := Lib.hid P0; have H8 := Lib.hid hB8; clear P0 hB8
  refine Lib.hid ?_
  go_wp2_with fail
  have P0 := HP.out; have hB8 := H8.out; clear HP H8
  generalize w0.alloc (Obj.cells #[.bool true] 76) = W1 at *
  generalize w0.heap.size = b at *
  have K : ∀ W : World, Below W1.heap.size W1 W → PlayAt W b ∧ Below w.heap.size w W := fun W hW => ⟨P0.mono hW, Below.chain hB8 hW⟩
  have KK := Lib.hid K; clear K P0 hB8
  have hB0 := Below.refl W1.heap.size W1
  go_wp2_with (go_at_call 30; refine (K1.out _ (KK.out _ hB0).2).mono ?_; rintro e w11 ⟨rfl, hb11⟩; refine Hid.out ?_)
  have hB11 := Below.chain hB0 hb11; clear hb11 hB0
  refine Lib.hid ?_
  go_wp2_with (go_at_call 31; refine (K2.out _ (KK.out _ hB11).2).mono ?_; rintro e w12 ⟨rfl, hb12⟩; refine Hid.out ?_)
  have hB12 := Below.chain hB11 hb12; clear hb12 hB11
  refine Lib.hid ?_
  go_wp2_with (go_at_call 27; refine (K3.out _ (KK.out _ hB12).2).mono ?_; rintro e w13 ⟨rfl, hb13⟩; refine Hid.out ?_)
  have hB13 := Below.chain hB12 hb13; clear hb13 hB12
  refine Lib.hid ?_
  go_wp2_with (go_at_call 28; refine (K4.out _ (KK.out _ hB13).2).mono ?_; rintro e w14 ⟨rfl, hb14⟩; refine Hid.out ?_)
  have hB14 := Below.chain hB13 hb14; clear hb14 hB13
  refine Lib.hid ?_
  go_wp2_with (go_at_call 19; refine (K5.out _ (KK.out _ hB14).2).mono ?_; rintro e w15 ⟨rfl, hb15⟩; refine Hid.out ?_)
  have hB15 := Below.chain hB14 hb15; clear hb15 hB14
  refine Lib.hid ?_
  go_wp2_with (go_at_call 56; refine (K6.out _ (KK.out _ hB15).2).mono ?_; rintro e w16 ⟨rfl, hb16⟩; refine Hid.out ?_)
  have hB16 := Below.chain hB15 hb16; clear hb16 hB15
  refine Lib.hid ?_
  go_wp2_with (go_at_call 39; refine (K7.out _ (KK.out _ hB16).2).mono ?_; rintro e w17 ⟨rfl, hb17⟩; refine Hid.out ?_)
  have hB17 := Below.chain hB16 hb17; clear hb17 hB16
  refine Lib.hid ?_
  go_wp2_with (go_at_call 76; refine (K8.out _ _ (KK.out _ hB17).1 (KK.out _ hB17).2).mono ?_; rintro e w18 ⟨rfl, hb18⟩; refine Hid.out ?_)
  have hB18 := Below.chain hB17 hb18; clear hb18 hB17
  refine Lib.hid ?_
  go_wp2_with (go_at_call 76; refine (K9.out _ _ (KK.out _ hB18).1 (KK.out _ hB18).2).mono ?_; rintro e w19 ⟨rfl, hb19⟩; refine Hid.out ?_)
  have hB19 := Below.chain hB18 hb19; clear hb19 hB18
  refine Lib.hid ?_
  go_wp2_with (go_at_call 53; refine (K10.out _ (KK.out _ hB19).2).mono ?_; rintro e w20 ⟨rfl, hb20⟩; refine Hid.out ?_)
  have hB20 := Below.chain hB19 hb20; clear hb20 hB19
  refine Lib.hid ?_
  have PL := (KK.out _ hB20).1
  have c0 := PL.cell; have f0 := PL.fr; have l0 := PL.lt; clear PL
  go_wp2_with (go_at_call 59; refine (KN.out _ (KK.out _ hB20).2).mono ?_; rintro e w22 ⟨rfl, hb22⟩; refine Hid.out ?_)
  have hB22 := Below.chain hB20 hb22; clear hb22 hB20
  refine Lib.hid ?_
  go_wp2
  refine bodyPost_ret (v := .bool true) (by simp [results, Tryz.results16, go_sem]) rfl ?_
  exact ⟨rfl, (KK.out _ hB22).2⟩

set_option maxRecDepth 20000 in
set_option maxHeartbeats 16000000 in
theorem tround_wn (s k f c n m o : ByteArray) (w : World) (hk : (k.toList == [48]) = false)
    (C0 : Calls Tryz.prog 71 #[.slice (some ⟨w.heap.size, 0, none⟩) 1 1] (w.alloc (Obj.cells #[.string s] 35)) (Bret (.bool true) (w.alloc (Obj.cells #[.string s] 35))))
    (CW : ∀ W : World, Calls Tryz.prog 58 #[.slice (some ⟨W.heap.size, 0, none⟩) 1 1] (W.alloc (Obj.cells #[.string k] 22)) (Bret (.bool true) (W.alloc (Obj.cells #[.string k] 22))))
    (C1 : ∀ W : World, Below w.heap.size w W → Calls Tryz.prog 30 #[.string s] W (Bret (.tuple #[.string f, .int .i64 0]) W))
    (C2 : ∀ W : World, Below w.heap.size w W → Calls Tryz.prog 31 #[.string s] W (Bret (.tuple #[.string c, .int .i64 0]) W))
    (C3 : ∀ W : World, Below w.heap.size w W → Calls Tryz.prog 27 #[.string s] W (Bret (.tuple #[.string n, .int .i64 0]) W))
    (C4 : ∀ W : World, Below w.heap.size w W → Calls Tryz.prog 28 #[.string s] W (Bret (.tuple #[.string ⟨#[49]⟩, .int .i64 0]) W))
    (C5 : ∀ W : World, Below w.heap.size w W → Calls Tryz.prog 19 #[.string n, .string ⟨#[49]⟩] W (Bret (.tuple #[.string ⟨#[49]⟩, .int .i64 0]) W))
    (C6 : ∀ W : World, Below w.heap.size w W → Calls Tryz.prog 56 #[.string ⟨#[49]⟩] W (Bret (.tuple #[.int .i64 1, .int .i64 0]) W))
    (C7 : ∀ W : World, Below w.heap.size w W → Calls Tryz.prog 39 #[.string n, .string ⟨#[49]⟩] W (Bret (.tuple #[.string s, .int .i64 0]) W))
    (C8 : ∀ (b : Nat) (W : World), PlayAt W b → Below w.heap.size w W → Calls Tryz.prog 76 #[(.pointer (some ⟨b, 0, none⟩)), .string f, .string s] W (Bret (.int .i64 0) W))
    (C9 : ∀ (b : Nat) (W : World), PlayAt W b → Below w.heap.size w W → Calls Tryz.prog 76 #[(.pointer (some ⟨b, 0, none⟩)), .string s, .string c] W (Bret (.int .i64 0) W))
    (C10 : ∀ W : World, Below w.heap.size w W → Calls Tryz.prog 53 #[.string c, .string f] W (Bret (.tuple #[.string ⟨#[48]⟩, .int .i64 0]) W))
    (C11 : ∀ W : World, Below w.heap.size w W → Calls Tryz.prog 57 #[.string n, .string k] W (Bret (.tuple #[.string m, .int .i64 0]) W))
    (C12 : ∀ W : World, Below w.heap.size w W → Calls Tryz.prog 57 #[.string ⟨#[49]⟩, .string k] W (Bret (.tuple #[.string o, .int .i64 0]) W))
    (C13 : ∀ W : World, Below w.heap.size w W → Calls Tryz.prog 39 #[.string m, .string o] W (Bret (.tuple #[.string s, .int .i64 0]) W))
    (CN : ∀ W : World, Below w.heap.size w W → Calls Tryz.prog 59 #[] W (Bret (.bool true) W)) :
    Calls Tryz.prog 16 #[.string s, .string k] w (Bret (.bool true) w) := by
  have B0 : Below w.heap.size w (w.alloc (Obj.cells #[.string s] 35)) := (Below.refl _ _).alloc (Nat.le_refl _) _
  have K0 := Lib.hid C0; have K1 := Lib.hid C1; have K2 := Lib.hid C2; have K3 := Lib.hid C3; have K4 := Lib.hid C4; have K5 := Lib.hid C5; have K6 := Lib.hid C6; have K7 := Lib.hid C7; have K8 := Lib.hid C8; have K9 := Lib.hid C9; have K10 := Lib.hid C10; have K11 := Lib.hid C11; have K12 := Lib.hid C12; have K13 := Lib.hid C13; have KW := Lib.hid CW; have KN := Lib.hid CN; have HB0 := Lib.hid B0
  clear C0 C1 C2 C3 C4 C5 C6 C7 C8 C9 C10 C11 C12 C13 CW CN B0
  go_enter Tryz.func16, Tryz.ntmps16
  go_wp2_with (go_at_call 71; refine K0.out.mono ?_; rintro e w7 ⟨rfl, hb7⟩; refine Hid.out ?_)
  have hB7 := Below.chain HB0.out hb7; clear hb7
  have A7 : Below w7.heap.size w7 (w7.alloc (Obj.cells #[.string k] 22)) := (Below.refl _ _).alloc (Nat.le_refl _) _
  have hB6 := Below.chain hB7 A7; clear hB7 A7
  have H6 := Lib.hid hB6; clear hB6
  refine Lib.hid ?_
  go_wp2_with (go_at_call 58; refine (KW.out _).mono ?_; rintro e w0 ⟨rfl, hb0⟩; refine Hid.out ?_)
  have hB9 := Below.chain H6.out hb0; clear hb0 H6
  have P0 := play_new w0 76
  have A0 : Below w0.heap.size w0 (w0.alloc (Obj.cells #[.bool true] 76)) := (Below.refl _ _).alloc (Nat.le_refl _) _
  have hB8 := Below.chain hB9 A0; clear hB9 A0
  have HP := Lib.hid P0; have H8 := Lib.hid hB8; clear P0 hB8
  refine Lib.hid ?_
  go_wp2_with fail
  have P0 := HP.out; have hB8 := H8.out; clear HP H8
  generalize w0.alloc (Obj.cells #[.bool true] 76) = W1 at *
  generalize w0.heap.size = b at *
  have K : ∀ W : World, Below W1.heap.size W1 W → PlayAt W b ∧ Below w.heap.size w W := fun W hW => ⟨P0.mono hW, Below.chain hB8 hW⟩
  have KK := Lib.hid K; clear K P0 hB8
  have hB0 := Below.refl W1.heap.size W1
  go_wp2_with (go_at_call 30; refine (K1.out _ (KK.out _ hB0).2).mono ?_; rintro e w11 ⟨rfl, hb11⟩; refine Hid.out ?_)
  have hB11 := Below.chain hB0 hb11; clear hb11 hB0
  refine Lib.hid ?_
  go_wp2_with (go_at_call 31; refine (K2.out _ (KK.out _ hB11).2).mono ?_; rintro e w12 ⟨rfl, hb12⟩; refine Hid.out ?_)
  have hB12 := Below.chain hB11 hb12; clear hb12 hB11
  refine Lib.hid ?_
  go_wp2_with (go_at_call 27; refine (K3.out _ (KK.out _ hB12).2).mono ?_; rintro e w13 ⟨rfl, hb13⟩; refine Hid.out ?_)
  have hB13 := Below.chain hB12 hb13; clear hb13 hB12
  refine Lib.hid ?_
  go_wp2_with (go_at_call 28; refine (K4.out _ (KK.out _ hB13).2).mono ?_; rintro e w14 ⟨rfl, hb14⟩; refine Hid.out ?_)
  have hB14 := Below.chain hB13 hb14; clear hb14 hB13
  refine Lib.hid ?_
  go_wp2_with (go_at_call 19; refine (K5.out _ (KK.out _ hB14).2).mono ?_; rintro e w15 ⟨rfl, hb15⟩; refine Hid.out ?_)
  have hB15 := Below.chain hB14 hb15; clear hb15 hB14
  refine Lib.hid ?_
  go_wp2_with (go_at_call 56; refine (K6.out _ (KK.out _ hB15).2).mono ?_; rintro e w16 ⟨rfl, hb16⟩; refine Hid.out ?_)
  have hB16 := Below.chain hB15 hb16; clear hb16 hB15
  refine Lib.hid ?_
  go_wp2_with (go_at_call 39; refine (K7.out _ (KK.out _ hB16).2).mono ?_; rintro e w17 ⟨rfl, hb17⟩; refine Hid.out ?_)
  have hB17 := Below.chain hB16 hb17; clear hb17 hB16
  refine Lib.hid ?_
  go_wp2_with (go_at_call 76; refine (K8.out _ _ (KK.out _ hB17).1 (KK.out _ hB17).2).mono ?_; rintro e w18 ⟨rfl, hb18⟩; refine Hid.out ?_)
  have hB18 := Below.chain hB17 hb18; clear hb18 hB17
  refine Lib.hid ?_
  go_wp2_with (go_at_call 76; refine (K9.out _ _ (KK.out _ hB18).1 (KK.out _ hB18).2).mono ?_; rintro e w19 ⟨rfl, hb19⟩; refine Hid.out ?_)
  have hB19 := Below.chain hB18 hb19; clear hb19 hB18
  refine Lib.hid ?_
  go_wp2_with (go_at_call 53; refine (K10.out _ (KK.out _ hB19).2).mono ?_; rintro e w20 ⟨rfl, hb20⟩; refine Hid.out ?_)
  have hB20 := Below.chain hB19 hb20; clear hb20 hB19
  refine Lib.hid ?_
  go_wp2_with (go_at_call 57; refine (K11.out _ (KK.out _ hB20).2).mono ?_; rintro e w21 ⟨rfl, hb21⟩; refine Hid.out ?_)
  have hB21 := Below.chain hB20 hb21; clear hb21 hB20
  refine Lib.hid ?_
  go_wp2_with (go_at_call 57; refine (K12.out _ (KK.out _ hB21).2).mono ?_; rintro e w22 ⟨rfl, hb22⟩; refine Hid.out ?_)
  have hB22 := Below.chain hB21 hb22; clear hb22 hB21
  refine Lib.hid ?_
  go_wp2_with (go_at_call 39; refine (K13.out _ (KK.out _ hB22).2).mono ?_; rintro e w23 ⟨rfl, hb23⟩; refine Hid.out ?_)
  have hB23 := Below.chain hB22 hb23; clear hb23 hB22
  refine Lib.hid ?_
  have PL := (KK.out _ hB23).1
  have c0 := PL.cell; have f0 := PL.fr; have l0 := PL.lt; clear PL
  go_wp2_with (go_at_call 59; refine (KN.out _ (KK.out _ hB23).2).mono ?_; rintro e w25 ⟨rfl, hb25⟩; refine Hid.out ?_)
  have hB25 := Below.chain hB23 hb25; clear hb25 hB23
  refine Lib.hid ?_
  go_wp2
  refine bodyPost_ret (v := .bool true) (by simp [results, Tryz.results16, go_sem]) rfl ?_
  exact ⟨rfl, (KK.out _ hB25).2⟩

set_option maxRecDepth 20000 in
set_option maxHeartbeats 16000000 in
theorem tround_pz (s k f c n d : ByteArray) (w : World) (hd : (d.toList == [49]) = false) (hk : (k.toList == [48]) = true)
    (C0 : Calls Tryz.prog 71 #[.slice (some ⟨w.heap.size, 0, none⟩) 1 1] (w.alloc (Obj.cells #[.string s] 35)) (Bret (.bool true) (w.alloc (Obj.cells #[.string s] 35))))
    (CW : ∀ W : World, Calls Tryz.prog 58 #[.slice (some ⟨W.heap.size, 0, none⟩) 1 1] (W.alloc (Obj.cells #[.string k] 22)) (Bret (.bool true) (W.alloc (Obj.cells #[.string k] 22))))
    (C1 : ∀ W : World, Below w.heap.size w W → Calls Tryz.prog 30 #[.string s] W (Bret (.tuple #[.string f, .int .i64 0]) W))
    (C2 : ∀ W : World, Below w.heap.size w W → Calls Tryz.prog 31 #[.string s] W (Bret (.tuple #[.string c, .int .i64 0]) W))
    (C3 : ∀ W : World, Below w.heap.size w W → Calls Tryz.prog 27 #[.string s] W (Bret (.tuple #[.string n, .int .i64 0]) W))
    (C4 : ∀ W : World, Below w.heap.size w W → Calls Tryz.prog 28 #[.string s] W (Bret (.tuple #[.string d, .int .i64 0]) W))
    (C5 : ∀ W : World, Below w.heap.size w W → Calls Tryz.prog 19 #[.string n, .string d] W (Bret (.tuple #[.string ⟨#[49]⟩, .int .i64 0]) W))
    (C6 : ∀ W : World, Below w.heap.size w W → Calls Tryz.prog 56 #[.string d] W (Bret (.tuple #[.int .i64 1, .int .i64 0]) W))
    (C7 : ∀ W : World, Below w.heap.size w W → Calls Tryz.prog 39 #[.string n, .string d] W (Bret (.tuple #[.string s, .int .i64 0]) W))
    (C8 : ∀ (b : Nat) (W : World), PlayAt W b → Below w.heap.size w W → Calls Tryz.prog 76 #[(.pointer (some ⟨b, 0, none⟩)), .string f, .string s] W (Bret (.int .i64 (-1)) W))
    (C9 : ∀ (b : Nat) (W : World), PlayAt W b → Below w.heap.size w W → Calls Tryz.prog 76 #[(.pointer (some ⟨b, 0, none⟩)), .string s, .string c] W (Bret (.int .i64 (-1)) W))
    (C10 : ∀ W : World, Below w.heap.size w W → Calls Tryz.prog 53 #[.string c, .string f] W (Bret (.tuple #[.string ⟨#[49]⟩, .int .i64 0]) W))
    (CN : ∀ W : World, Below w.heap.size w W → Calls Tryz.prog 59 #[] W (Bret (.bool true) W)) :
    Calls Tryz.prog 16 #[.string s, .string k] w (Bret (.bool true) w) := by
  have B0 : Below w.heap.size w (w.alloc (Obj.cells #[.string s] 35)) := (Below.refl _ _).alloc (Nat.le_refl _) _
  have K0 := Lib.hid C0; have K1 := Lib.hid C1; have K2 := Lib.hid C2; have K3 := Lib.hid C3; have K4 := Lib.hid C4; have K5 := Lib.hid C5; have K6 := Lib.hid C6; have K7 := Lib.hid C7; have K8 := Lib.hid C8; have K9 := Lib.hid C9; have K10 := Lib.hid C10; have KW := Lib.hid CW; have KN := Lib.hid CN; have HB0 := Lib.hid B0
  clear C0 C1 C2 C3 C4 C5 C6 C7 C8 C9 C10 CW CN B0
  go_enter Tryz.func16, Tryz.ntmps16
  go_wp2_with (go_at_call 71; refine K0.out.mono ?_; rintro e w7 ⟨rfl, hb7⟩; refine Hid.out ?_)
  have hB7 := Below.chain HB0.out hb7; clear hb7
  have A7 : Below w7.heap.size w7 (w7.alloc (Obj.cells #[.string k] 22)) := (Below.refl _ _).alloc (Nat.le_refl _) _
  have hB6 := Below.chain hB7 A7; clear hB7 A7
  have H6 := Lib.hid hB6; clear hB6
  refine Lib.hid ?_
  go_wp2_with (go_at_call 58; refine (KW.out _).mono ?_; rintro e w0 ⟨rfl, hb0⟩; refine Hid.out ?_)
  have hB9 := Below.chain H6.out hb0; clear hb0 H6
  have P0 := play_new w0 76
  have A0 : Below w0.heap.size w0 (w0.alloc (Obj.cells #[.bool true] 76)) := (Below.refl _ _).alloc (Nat.le_refl _) _
  have hB8 := Below.chain hB9 A0; clear hB9 A0
  have HP := Lib.hid P0; have H8 := Lib.hid hB8; clear P0 hB8
  refine Lib.hid ?_
  go_wp2_with fail
  have P0 := HP.out; have hB8 := H8.out; clear HP H8
  generalize w0.alloc (Obj.cells #[.bool true] 76) = W1 at *
  generalize w0.heap.size = b at *
  have K : ∀ W : World, Below W1.heap.size W1 W → PlayAt W b ∧ Below w.heap.size w W := fun W hW => ⟨P0.mono hW, Below.chain hB8 hW⟩
  have KK := Lib.hid K; clear K P0 hB8
  have hB0 := Below.refl W1.heap.size W1
  go_wp2_with (go_at_call 30; refine (K1.out _ (KK.out _ hB0).2).mono ?_; rintro e w11 ⟨rfl, hb11⟩; refine Hid.out ?_)
  have hB11 := Below.chain hB0 hb11; clear hb11 hB0
  refine Lib.hid ?_
  go_wp2_with (go_at_call 31; refine (K2.out _ (KK.out _ hB11).2).mono ?_; rintro e w12 ⟨rfl, hb12⟩; refine Hid.out ?_)
  have hB12 := Below.chain hB11 hb12; clear hb12 hB11
  refine Lib.hid ?_
  go_wp2_with (go_at_call 27; refine (K3.out _ (KK.out _ hB12).2).mono ?_; rintro e w13 ⟨rfl, hb13⟩; refine Hid.out ?_)
  have hB13 := Below.chain hB12 hb13; clear hb13 hB12
  refine Lib.hid ?_
  go_wp2_with (go_at_call 28; refine (K4.out _ (KK.out _ hB13).2).mono ?_; rintro e w14 ⟨rfl, hb14⟩; refine Hid.out ?_)
  have hB14 := Below.chain hB13 hb14; clear hb14 hB13
  refine Lib.hid ?_
  go_wp2_with (go_at_call 19; refine (K5.out _ (KK.out _ hB14).2).mono ?_; rintro e w15 ⟨rfl, hb15⟩; refine Hid.out ?_)
  have hB15 := Below.chain hB14 hb15; clear hb15 hB14
  refine Lib.hid ?_
  go_wp2_with (go_at_call 56; refine (K6.out _ (KK.out _ hB15).2).mono ?_; rintro e w16 ⟨rfl, hb16⟩; refine Hid.out ?_)
  have hB16 := Below.chain hB15 hb16; clear hb16 hB15
  refine Lib.hid ?_
  go_wp2_with (go_at_call 39; refine (K7.out _ (KK.out _ hB16).2).mono ?_; rintro e w17 ⟨rfl, hb17⟩; refine Hid.out ?_)
  have hB17 := Below.chain hB16 hb17; clear hb17 hB16
  refine Lib.hid ?_
  go_wp2_with (go_at_call 76; refine (K8.out _ _ (KK.out _ hB17).1 (KK.out _ hB17).2).mono ?_; rintro e w18 ⟨rfl, hb18⟩; refine Hid.out ?_)
  have hB18 := Below.chain hB17 hb18; clear hb18 hB17
  refine Lib.hid ?_
  go_wp2_with (go_at_call 76; refine (K9.out _ _ (KK.out _ hB18).1 (KK.out _ hB18).2).mono ?_; rintro e w19 ⟨rfl, hb19⟩; refine Hid.out ?_)
  have hB19 := Below.chain hB18 hb19; clear hb19 hB18
  refine Lib.hid ?_
  go_wp2_with (go_at_call 53; refine (K10.out _ (KK.out _ hB19).2).mono ?_; rintro e w20 ⟨rfl, hb20⟩; refine Hid.out ?_)
  have hB20 := Below.chain hB19 hb20; clear hb20 hB19
  refine Lib.hid ?_
  have PL := (KK.out _ hB20).1
  have c0 := PL.cell; have f0 := PL.fr; have l0 := PL.lt; clear PL
  go_wp2_with (go_at_call 59; refine (KN.out _ (KK.out _ hB20).2).mono ?_; rintro e w22 ⟨rfl, hb22⟩; refine Hid.out ?_)
  have hB22 := Below.chain hB20 hb22; clear hb22 hB20
  refine Lib.hid ?_
  go_wp2
  refine bodyPost_ret (v := .bool true) (by simp [results, Tryz.results16, go_sem]) rfl ?_
  exact ⟨rfl, (KK.out _ hB22).2⟩

set_option maxRecDepth 20000 in
set_option maxHeartbeats 16000000 in
theorem tround_pn (s k f c n d m o : ByteArray) (w : World) (hd : (d.toList == [49]) = false) (hk : (k.toList == [48]) = false)
    (C0 : Calls Tryz.prog 71 #[.slice (some ⟨w.heap.size, 0, none⟩) 1 1] (w.alloc (Obj.cells #[.string s] 35)) (Bret (.bool true) (w.alloc (Obj.cells #[.string s] 35))))
    (CW : ∀ W : World, Calls Tryz.prog 58 #[.slice (some ⟨W.heap.size, 0, none⟩) 1 1] (W.alloc (Obj.cells #[.string k] 22)) (Bret (.bool true) (W.alloc (Obj.cells #[.string k] 22))))
    (C1 : ∀ W : World, Below w.heap.size w W → Calls Tryz.prog 30 #[.string s] W (Bret (.tuple #[.string f, .int .i64 0]) W))
    (C2 : ∀ W : World, Below w.heap.size w W → Calls Tryz.prog 31 #[.string s] W (Bret (.tuple #[.string c, .int .i64 0]) W))
    (C3 : ∀ W : World, Below w.heap.size w W → Calls Tryz.prog 27 #[.string s] W (Bret (.tuple #[.string n, .int .i64 0]) W))
    (C4 : ∀ W : World, Below w.heap.size w W → Calls Tryz.prog 28 #[.string s] W (Bret (.tuple #[.string d, .int .i64 0]) W))
    (C5 : ∀ W : World, Below w.heap.size w W → Calls Tryz.prog 19 #[.string n, .string d] W (Bret (.tuple #[.string ⟨#[49]⟩, .int .i64 0]) W))
    (C6 : ∀ W : World, Below w.heap.size w W → Calls Tryz.prog 56 #[.string d] W (Bret (.tuple #[.int .i64 1, .int .i64 0]) W))
    (C7 : ∀ W : World, Below w.heap.size w W → Calls Tryz.prog 39 #[.string n, .string d] W (Bret (.tuple #[.string s, .int .i64 0]) W))
    (C8 : ∀ (b : Nat) (W : World), PlayAt W b → Below w.heap.size w W → Calls Tryz.prog 76 #[(.pointer (some ⟨b, 0, none⟩)), .string f, .string s] W (Bret (.int .i64 (-1)) W))
    (C9 : ∀ (b : Nat) (W : World), PlayAt W b → Below w.heap.size w W → Calls Tryz.prog 76 #[(.pointer (some ⟨b, 0, none⟩)), .string s, .string c] W (Bret (.int .i64 (-1)) W))
    (C10 : ∀ W : World, Below w.heap.size w W → Calls Tryz.prog 53 #[.string c, .string f] W (Bret (.tuple #[.string ⟨#[49]⟩, .int .i64 0]) W))
    (C11 : ∀ W : World, Below w.heap.size w W → Calls Tryz.prog 57 #[.string n, .string k] W (Bret (.tuple #[.string m, .int .i64 0]) W))
    (C12 : ∀ W : World, Below w.heap.size w W → Calls Tryz.prog 57 #[.string d, .string k] W (Bret (.tuple #[.string o, .int .i64 0]) W))
    (C13 : ∀ W : World, Below w.heap.size w W → Calls Tryz.prog 39 #[.string m, .string o] W (Bret (.tuple #[.string s, .int .i64 0]) W))
    (CN : ∀ W : World, Below w.heap.size w W → Calls Tryz.prog 59 #[] W (Bret (.bool true) W)) :
    Calls Tryz.prog 16 #[.string s, .string k] w (Bret (.bool true) w) := by
  have B0 : Below w.heap.size w (w.alloc (Obj.cells #[.string s] 35)) := (Below.refl _ _).alloc (Nat.le_refl _) _
  have K0 := Lib.hid C0; have K1 := Lib.hid C1; have K2 := Lib.hid C2; have K3 := Lib.hid C3; have K4 := Lib.hid C4; have K5 := Lib.hid C5; have K6 := Lib.hid C6; have K7 := Lib.hid C7; have K8 := Lib.hid C8; have K9 := Lib.hid C9; have K10 := Lib.hid C10; have K11 := Lib.hid C11; have K12 := Lib.hid C12; have K13 := Lib.hid C13; have KW := Lib.hid CW; have KN := Lib.hid CN; have HB0 := Lib.hid B0
  clear C0 C1 C2 C3 C4 C5 C6 C7 C8 C9 C10 C11 C12 C13 CW CN B0
  go_enter Tryz.func16, Tryz.ntmps16
  go_wp2_with (go_at_call 71; refine K0.out.mono ?_; rintro e w7 ⟨rfl, hb7⟩; refine Hid.out ?_)
  have hB7 := Below.chain HB0.out hb7; clear hb7
  have A7 : Below w7.heap.size w7 (w7.alloc (Obj.cells #[.string k] 22)) := (Below.refl _ _).alloc (Nat.le_refl _) _
  have hB6 := Below.chain hB7 A7; clear hB7 A7
  have H6 := Lib.hid hB6; clear hB6
  refine Lib.hid ?_
  go_wp2_with (go_at_call 58; refine (KW.out _).mono ?_; rintro e w0 ⟨rfl, hb0⟩; refine Hid.out ?_)
  have hB9 := Below.chain H6.out hb0; clear hb0 H6
  have P0 := play_new w0 76
  have A0 : Below w0.heap.size w0 (w0.alloc (Obj.cells #[.bool true] 76)) := (Below.refl _ _).alloc (Nat.le_refl _) _
  have hB8 := Below.chain hB9 A0; clear hB9 A0
  have HP := Lib.hid P0; have H8 := Lib.hid hB8; clear P0 hB8
  refine Lib.hid ?_
  go_wp2_with fail
  have P0 := HP.out; have hB8 := H8.out; clear HP H8
  generalize w0.alloc (Obj.cells #[.bool true] 76) = W1 at *
  generalize w0.heap.size = b at *
  have K : ∀ W : World, Below W1.heap.size W1 W → PlayAt W b ∧ Below w.heap.size w W := fun W hW => ⟨P0.mono hW, Below.chain hB8 hW⟩
  have KK := Lib.hid K; clear K P0 hB8
  have hB0 := Below.refl W1.heap.size W1
  go_wp2_with (go_at_call 30; refine (K1.out _ (KK.out _ hB0).2).mono ?_; rintro e w11 ⟨rfl, hb11⟩; refine Hid.out ?_)
  have hB11 := Below.chain hB0 hb11; clear hb11 hB0
  refine Lib.hid ?_
  go_wp2_with (go_at_call 31; refine (K2.out _ (KK.out _ hB11).2).mono ?_; rintro e w12 ⟨rfl, hb12⟩; refine Hid.out ?_)
  have hB12 := Below.chain hB11 hb12; clear hb12 hB11
  refine Lib.hid ?_
  go_wp2_with (go_at_call 27; refine (K3.out _ (KK.out _ hB12).2).mono ?_; rintro e w13 ⟨rfl, hb13⟩; refine Hid.out ?_)
  have hB13 := Below.chain hB12 hb13; clear hb13 hB12
  refine Lib.hid ?_
  go_wp2_with (go_at_call 28; refine (K4.out _ (KK.out _ hB13).2).mono ?_; rintro e w14 ⟨rfl, hb14⟩; refine Hid.out ?_)
  have hB14 := Below.chain hB13 hb14; clear hb14 hB13
  refine Lib.hid ?_
  go_wp2_with (go_at_call 19; refine (K5.out _ (KK.out _ hB14).2).mono ?_; rintro e w15 ⟨rfl, hb15⟩; refine Hid.out ?_)
  have hB15 := Below.chain hB14 hb15; clear hb15 hB14
  refine Lib.hid ?_
  go_wp2_with (go_at_call 56; refine (K6.out _ (KK.out _ hB15).2).mono ?_; rintro e w16 ⟨rfl, hb16⟩; refine Hid.out ?_)
  have hB16 := Below.chain hB15 hb16; clear hb16 hB15
  refine Lib.hid ?_
  go_wp2_with (go_at_call 39; refine (K7.out _ (KK.out _ hB16).2).mono ?_; rintro e w17 ⟨rfl, hb17⟩; refine Hid.out ?_)
  have hB17 := Below.chain hB16 hb17; clear hb17 hB16
  refine Lib.hid ?_
  go_wp2_with (go_at_call 76; refine (K8.out _ _ (KK.out _ hB17).1 (KK.out _ hB17).2).mono ?_; rintro e w18 ⟨rfl, hb18⟩; refine Hid.out ?_)
  have hB18 := Below.chain hB17 hb18; clear hb18 hB17
  refine Lib.hid ?_
  go_wp2_with (go_at_call 76; refine (K9.out _ _ (KK.out _ hB18).1 (KK.out _ hB18).2).mono ?_; rintro e w19 ⟨rfl, hb19⟩; refine Hid.out ?_)
  have hB19 := Below.chain hB18 hb19; clear hb19 hB18
  refine Lib.hid ?_
  go_wp2_with (go_at_call 53; refine (K10.out _ (KK.out _ hB19).2).mono ?_; rintro e w20 ⟨rfl, hb20⟩; refine Hid.out ?_)
  have hB20 := Below.chain hB19 hb20; clear hb20 hB19
  refine Lib.hid ?_
  go_wp2_with (go_at_call 57; refine (K11.out _ (KK.out _ hB20).2).mono ?_; rintro e w21 ⟨rfl, hb21⟩; refine Hid.out ?_)
  have hB21 := Below.chain hB20 hb21; clear hb21 hB20
  refine Lib.hid ?_
  go_wp2_with (go_at_call 57; refine (K12.out _ (KK.out _ hB21).2).mono ?_; rintro e w22 ⟨rfl, hb22⟩; refine Hid.out ?_)
  have hB22 := Below.chain hB21 hb22; clear hb22 hB21
  refine Lib.hid ?_
  go_wp2_with (go_at_call 39; refine (K13.out _ (KK.out _ hB22).2).mono ?_; rintro e w23 ⟨rfl, hb23⟩; refine Hid.out ?_)
  have hB23 := Below.chain hB22 hb23; clear hb23 hB22
  refine Lib.hid ?_
  have PL := (KK.out _ hB23).1
  have c0 := PL.cell; have f0 := PL.fr; have l0 := PL.lt; clear PL
  go_wp2_with (go_at_call 59; refine (KN.out _ (KK.out _ hB23).2).mono ?_; rintro e w25 ⟨rfl, hb25⟩; refine Hid.out ?_)
  have hB25 := Below.chain hB23 hb25; clear hb25 hB23
  refine Lib.hid ?_
  go_wp2
  refine bodyPost_ret (v := .bool true) (by simp [results, Tryz.results16, go_sem]) rfl ?_
  exact ⟨rfl, (KK.out _ hB25).2⟩

set_option maxRecDepth 20000 in
set_option maxHeartbeats 4000000 in
theorem tround_bad (s k : ByteArray) (w : World)
    (C0 : Calls Tryz.prog 71 #[.slice (some ⟨w.heap.size, 0, none⟩) 1 1] (w.alloc (Obj.cells #[.string s] 35)) (Bret (.bool false) (w.alloc (Obj.cells #[.string s] 35))))
    (CN : ∀ W : World, Below w.heap.size w W → Calls Tryz.prog 59 #[] W (Bret (.bool true) W)) :
    Calls Tryz.prog 16 #[.string s, .string k] w (Bret (.bool true) w) := by
  have B0 : Below w.heap.size w (w.alloc (Obj.cells #[.string s] 35)) := (Below.refl _ _).alloc (Nat.le_refl _) _
  have K0 := Lib.hid C0; have K1 := Lib.hid CN; have HB0 := Lib.hid B0
  clear C0 CN B0
  go_enter Tryz.func16, Tryz.ntmps16
  go_wp2_with (go_at_call 71; refine K0.out.mono ?_; rintro e w0 ⟨rfl, hb0⟩; refine Hid.out ?_)
  have hB0 := Below.chain HB0.out hb0; clear hb0
  refine Lib.hid ?_
  go_wp2_with (go_at_call 59; refine (K1.out _ hB0).mono ?_; rintro e w1 ⟨rfl, hb1⟩; refine Hid.out ?_)
  have hB1 := Below.chain hB0 hb1; clear hb1 hB0
  refine Lib.hid ?_
  go_wp2
  refine bodyPost_ret (v := .bool true) (by simp [results, Tryz.results16, go_sem]) rfl ?_
  exact ⟨rfl, hB1⟩

set_option maxRecDepth 20000 in
set_option maxHeartbeats 4000000 in
theorem tround_bad2 (s k : ByteArray) (w : World)
    (C0 : Calls Tryz.prog 71 #[.slice (some ⟨w.heap.size, 0, none⟩) 1 1] (w.alloc (Obj.cells #[.string s] 35)) (Bret (.bool true) (w.alloc (Obj.cells #[.string s] 35))))
    (CW : ∀ W : World, Calls Tryz.prog 58 #[.slice (some ⟨W.heap.size, 0, none⟩) 1 1] (W.alloc (Obj.cells #[.string k] 22)) (Bret (.bool false) (W.alloc (Obj.cells #[.string k] 22))))
    (CN : ∀ W : World, Below w.heap.size w W → Calls Tryz.prog 59 #[] W (Bret (.bool true) W)) :
    Calls Tryz.prog 16 #[.string s, .string k] w (Bret (.bool true) w) := by
  have B0 : Below w.heap.size w (w.alloc (Obj.cells #[.string s] 35)) := (Below.refl _ _).alloc (Nat.le_refl _) _
  have K0 := Lib.hid C0; have KW := Lib.hid CW; have K1 := Lib.hid CN; have HB0 := Lib.hid B0
  clear C0 CW CN B0
  go_enter Tryz.func16, Tryz.ntmps16
  go_wp2_with (go_at_call 71; refine K0.out.mono ?_; rintro e w7 ⟨rfl, hb7⟩; refine Hid.out ?_)
  have hB7 := Below.chain HB0.out hb7; clear hb7
  have A7 : Below w7.heap.size w7 (w7.alloc (Obj.cells #[.string k] 22)) := (Below.refl _ _).alloc (Nat.le_refl _) _
  have hB6 := Below.chain hB7 A7; clear hB7 A7
  have H6 := Lib.hid hB6; clear hB6
  refine Lib.hid ?_
  go_wp2_with (go_at_call 58; refine (KW.out _).mono ?_; rintro e w0 ⟨rfl, hb0⟩; refine Hid.out ?_)
  have hB9 := Below.chain H6.out hb0; clear hb0 H6
  refine Lib.hid ?_
  go_wp2_with (go_at_call 59; refine (K1.out _ hB9).mono ?_; rintro e w1 ⟨rfl, hb1⟩; refine Hid.out ?_)
  have hB1 := Below.chain hB9 hb1; clear hB9 hb1
  refine Lib.hid ?_
  go_wp2
  refine bodyPost_ret (v := .bool true) (by simp [results, Tryz.results16, go_sem]) rfl ?_
  exact ⟨rfl, hB1⟩

theorem gcd_red (p : Rat) : gcdI p.num (p.den : Int) = 1 := by unfold gcdI; rw [show Int.gcd p.num (p.den : Int) = 1 from p.reduced]; rfl
theorem tround_main (s k : ByteArray) (p : Rat) (x : Int) (w : World) (hs : RStr s p) (hp : RZ 250 p) (hk : Str k x) (hx : Sz 400 x)
    (C0 : Calls Tryz.prog 71 #[.slice (some ⟨w.heap.size, 0, none⟩) 1 1] (w.alloc (Obj.cells #[.string s] 35)) (Bret (.bool true) (w.alloc (Obj.cells #[.string s] 35))))
    (CW : ∀ W : World, Calls Tryz.prog 58 #[.slice (some ⟨W.heap.size, 0, none⟩) 1 1] (W.alloc (Obj.cells #[.string k] 22)) (Bret (.bool true) (W.alloc (Obj.cells #[.string k] 22))))
    (htab : Lib.TabIs Tryz.prog w "internal/strconv.uint64pow10" .u64 Lib.pow10Tab) :
    Calls Tryz.prog 16 #[.string s, .string k] w (Bret (.bool true) w) := by
  have hT := Lib.tabBelow_of_tabIs htab
  have hls : s.size ≤ 1000000000 := by have := hs.size; omega
  have zf := floor_sz hp; have zc := ceil_sz hp
  have sf := zf.str (by decide) (by decide); have sc := zc.str (by decide) (by decide)
  have rf := RStr.ofInt sf; have rc := RStr.ofInt sc
  have zd : Sz 251 (p.ceil - p.floor) := by rw [Int.sub_eq_add_neg]; exact zc.add zf.neg
  have zm := hp.num.mul hx
  have zo := hp.den.mul hx
  have sm := zm.str (by decide) (by decide); have so := zo.str (by decide) (by decide)
  have hden := den_ne p
  have CN : ∀ W : World, Below w.heap.size w W → Calls Tryz.prog 59 #[] W (Bret (.bool true) W) := fun W hW => playNumbers_any W (hT.on hW).here
  have C1 : ∀ W : World, Below w.heap.size w W → Calls Tryz.prog 30 #[.string s] W (Bret (.tuple #[.string (str (Lib.itoa (p.floor))), .int .i64 0]) W) := fun W hW => by
    exact ratFloorS s p W hs hls (hT.on hW).here
  have C2 : ∀ W : World, Below w.heap.size w W → Calls Tryz.prog 31 #[.string s] W (Bret (.tuple #[.string (str (Lib.itoa (p.ceil))), .int .i64 0]) W) := fun W hW => by
    exact ratCeilS s p W hs hls (hT.on hW).here
  have C3 : ∀ W : World, Below w.heap.size w W → Calls Tryz.prog 27 #[.string s] W (Bret (.tuple #[.string (str (Lib.itoa (p.num))), .int .i64 0]) W) := fun W hW => by
    exact ratNumS s p W hs hls (hT.on hW).here
  have C4 : ∀ W : World, Below w.heap.size w W → Calls Tryz.prog 28 #[.string s] W (Bret (.tuple #[.string (str (Lib.itoa ((p.den : Int)))), .int .i64 0]) W) := fun W hW => by
    exact ratDenS s p W hs hls (hT.on hW).here
  have C5 : ∀ W : World, Below w.heap.size w W → Calls Tryz.prog 19 #[.string (str (Lib.itoa (p.num))), .string (str (Lib.itoa ((p.den : Int))))] W (Bret (.tuple #[.string ⟨#[49]⟩, .int .i64 0]) W) := fun W hW => by
    have : Calls Tryz.prog 19 #[.string (str (Lib.itoa (p.num))), .string (str (Lib.itoa ((p.den : Int))))] W (Bret (resV (gcdI p.num (p.den : Int))) W) := gcdZ _ _ _ _ W hs.rs.num hs.rs.den (hT.on hW).here; rwa [gcd_red, resV_lit s1] at this
  have C6 : ∀ W : World, Below w.heap.size w W → Calls Tryz.prog 56 #[.string (str (Lib.itoa ((p.den : Int))))] W (Bret (.tuple #[.int .i64 1, .int .i64 0]) W) := fun W hW => by
    have := bret_same (signS _ _ W hs.rs.den); rwa [show cmpI (p.den : Int) 0 = 1 from cmpI_gt (by have := p.den_pos; omega)] at this
  have C7 : ∀ W : World, Below w.heap.size w W → Calls Tryz.prog 39 #[.string (str (Lib.itoa (p.num))), .string (str (Lib.itoa ((p.den : Int))))] W (Bret (.tuple #[.string s, .int .i64 0]) W) := fun W hW => by
    have := of_rat _ _ _ _ W hs.rs.num hs.rs.den hden (hT.on hW).here; rwa [Rat.num_divInt_den, hs.lit] at this
  have C8 : ∀ (b : Nat) (W : World), PlayAt W b → Below w.heap.size w W → Calls Tryz.prog 76 #[(.pointer (some ⟨b, 0, none⟩)), .string (str (Lib.itoa (p.floor))), .string s] W (Bret (.int .i64 (ordQ (p.floor : Rat) p)) W) := fun b W hP hW => pRorder rf hs (rz_int zf (by decide)) hp w htab (by decide) b W hP hW
  have C9 : ∀ (b : Nat) (W : World), PlayAt W b → Below w.heap.size w W → Calls Tryz.prog 76 #[(.pointer (some ⟨b, 0, none⟩)), .string s, .string (str (Lib.itoa (p.ceil)))] W (Bret (.int .i64 (ordQ p (p.ceil : Rat))) W) := fun b W hP hW => pRorder hs rc hp (rz_int zc (by decide)) w htab (by decide) b W hP hW
  have C10 : ∀ W : World, Below w.heap.size w W → Calls Tryz.prog 53 #[.string (str (Lib.itoa (p.ceil))), .string (str (Lib.itoa (p.floor)))] W (Bret (.tuple #[.string (str (Lib.itoa (p.ceil - p.floor))), .int .i64 0]) W) := fun W hW => by
    have := subZ _ _ _ _ W sc sf (hT.on hW).here; rwa [resV_fits (zd.fits (by decide) (by decide))] at this
  have C11 : ∀ W : World, Below w.heap.size w W → Calls Tryz.prog 57 #[.string (str (Lib.itoa (p.num))), .string k] W (Bret (.tuple #[.string (str (Lib.itoa (p.num * x))), .int .i64 0]) W) := fun W hW => by
    have := mulZ _ _ _ _ W hs.rs.num hk (hT.on hW).here; rwa [resV_fits (zm.fits (by decide) (by decide))] at this
  have C12 : ∀ W : World, Below w.heap.size w W → Calls Tryz.prog 57 #[.string (str (Lib.itoa ((p.den : Int)))), .string k] W (Bret (.tuple #[.string (str (Lib.itoa ((p.den : Int) * x))), .int .i64 0]) W) := fun W hW => by
    have := mulZ _ _ _ _ W hs.rs.den hk (hT.on hW).here; rwa [resV_fits (zo.fits (by decide) (by decide))] at this
  have C13 : x ≠ 0 → ∀ W : World, Below w.heap.size w W → Calls Tryz.prog 39 #[.string (str (Lib.itoa (p.num * x))), .string (str (Lib.itoa ((p.den : Int) * x)))] W (Bret (.tuple #[.string s, .int .i64 0]) W) := fun h0 W hW => by
    have := of_rat _ _ _ _ W sm so (Int.mul_ne_zero hden h0) (hT.on hW).here
    rwa [Rat.divInt_mul_right h0, Rat.num_divInt_den, hs.lit] at this
  have hkz : x = 0 → (k.toList == [48]) = true := fun e => by rw [e] at hk; rw [txt_is_zero hk.text, ByteArray.toList_eq]; decide
  have hkn : x ≠ 0 → (k.toList == [48]) = false := fun e => eq48 k (hk.ne_zero e)
  by_cases h : p.den = 1
  · have e := int_of_den h
    have e1 : p.floor = p.num := by conv => lhs; rw [e, Rat.floor_intCast]
    have e2 : p.ceil = p.num := by conv => lhs; rw [e, Rat.ceil_intCast]
    rw [show ordQ (p.floor : Rat) p = 0 by rw [e1, ← e]; exact ordQ_eq p] at C8
    rw [show ordQ p (p.ceil : Rat) = 0 by rw [e2, ← e]; exact ordQ_eq p] at C9
    rw [show p.ceil - p.floor = 0 by rw [e1, e2]; omega, lit_str str_zero] at C10
    rw [den_lit h] at C4 C5 C6 C7 C12
    by_cases h0 : x = 0
    · exact tround_wz s k _ _ _ w (hkz h0) C0 CW C1 C2 C3 C4 C5 C6 C7 C8 C9 C10 CN
    · exact tround_wn s k _ _ _ _ _ w (hkn h0) C0 CW C1 C2 C3 C4 C5 C6 C7 C8 C9 C10 C11 C12 (C13 h0) CN
  · rw [ordQ_lt (floor_lt h)] at C8
    rw [ordQ_lt (lt_ceil h)] at C9
    rw [ceil_floor h, lit_str s1] at C10
    have hd := itoa_ne_one (g := (p.den : Int)) (by omega)
    by_cases h0 : x = 0
    · exact tround_pz s k _ _ _ _ w hd (hkz h0) C0 CW C1 C2 C3 C4 C5 C6 C7 C8 C9 C10 CN
    · exact tround_pn s k _ _ _ _ _ _ w hd (hkn h0) C0 CW C1 C2 C3 C4 C5 C6 C7 C8 C9 C10 C11 C12 (C13 h0) CN

theorem tround_walk (s k : ByteArray) (w : World) (hs : s.size ≤ 9223372036854775807) (hk : k.size ≤ 9223372036854775807)
    (htab : Lib.TabIs Tryz.prog w "internal/strconv.uint64pow10" .u64 Lib.pow10Tab) :
    Calls Tryz.prog 16 #[.string s, .string k] w fun e w' => e = .returned (.bool true) ∧ Below w.heap.size w w' := by
  have hT := Lib.tabBelow_of_tabIs htab
  have C0 := broken_one s w hs
  have CW := fun W => whole_one k W hk
  have CN : ∀ W : World, Below w.heap.size w W → Calls Tryz.prog 59 #[] W (Bret (.bool true) W) := fun W hW => playNumbers_any W (hT.on hW).here
  cases hr : brokenB s
  · rw [hr] at C0
    exact tround_bad s k w C0 CN
  · rw [hr] at C0
    cases hw : wholeB k
    · rw [hw] at CW
      exact tround_bad2 s k w C0 CW CN
    · rw [hw] at CW
      obtain ⟨a1, a2⟩ := broken_rstr hr
      obtain ⟨b1, b2⟩ := whole_str hw
      exact tround_main s k _ _ w a1 a2 b1 b2 C0 CW htab
end Go.Proofs.YtbadibbdoljjhaaGreatDoor
