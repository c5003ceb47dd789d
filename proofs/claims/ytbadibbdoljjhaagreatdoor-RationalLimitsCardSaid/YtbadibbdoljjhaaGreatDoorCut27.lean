import Derived.Test.YtbadibbdoljjhaaGreatDoorCut26

set_option linter.unusedVariables false
/-
  rational: compute.
-/
namespace Go.Proofs.YtbadibbdoljjhaaGreatDoor
open Go Go.Proofs Go.RowKit

set_option maxHeartbeats 2000000 in
theorem comp1_0 (s t a1 a2 b1 b2 u v r : ByteArray) (w : World)
    (C1 : ∀ W : World, Below w.heap.size w W → Calls Tryz.prog 106 #[.string s, .string t] W (Bret (.tuple #[.agg #[.string a1, .string a2], .agg #[.string b1, .string b2], .int .i64 0]) W))
    (C3 : ∀ W : World, Below w.heap.size w W → Calls Tryz.prog 204 #[.agg #[.string a1, .string a2], .agg #[.string b1, .string b2]] W (Bret (.tuple #[.string u, .string v, .int .i64 0]) W))
    (C4 : ∀ W : World, Below w.heap.size w W → Calls Tryz.prog 39 #[.string u, .string v] W (Bret (.tuple #[.string r, .int .i64 0]) W)) :
    Calls Tryz.prog 111 #[.int .u8 43, .string s, .string t] w (Bret (.tuple #[.string r, .int .i64 0]) w) := by
  have C2 : ∀ W : World, Calls Tryz.prog 163 #[.int .u8 43] W (Bret (.func (.func 204) #[] #[]) W) := fun W => operationOf_runs W 43 _ (.inl ⟨rfl, rfl⟩)
  have K1 := Lib.hid C1; have K2 := Lib.hid C2; have K3 := Lib.hid C3; have K4 := Lib.hid C4
  clear C1 C2 C3 C4
  go_enter Tryz.func111, Tryz.ntmps111
  go_wp2_with (go_at_call 106; refine (K1.out _ (Below.refl _ _)).mono ?_; rintro e w1 ⟨rfl, hb1⟩; refine Hid.out ?_)
  have T7 := tbox_new w1 103 a1 a2 b1 b2
  have HB1 := Lib.hid hb1; clear hb1
  refine Lib.hid ?_
  go_wp2_with fail
  generalize ((w1.alloc (Obj.cells #[Value.string a1, Value.string a2] 103)).alloc (Obj.cells #[Value.string b1, Value.string b2] 103)) = W7 at *
  generalize hp : w1.heap.size = p at *
  have K : ∀ W : World, Below W7.heap.size W7 W → W.cell? ⟨p, 0, none⟩ = some (.string a1) ∧ W.cell? ⟨p, 1, none⟩ = some (.string a2) ∧ W.cell? ⟨p + 1, 0, none⟩ = some (.string b1) ∧ W.cell? ⟨p + 1, 1, none⟩ = some (.string b2) := fun W hW => ⟨(T7.mono hW).a0, (T7.mono hW).a1, (T7.mono hW).c0, (T7.mono hW).c1⟩
  have HW : ∀ W : World, Below W7.heap.size W7 W → Below w.heap.size w W := fun W hW => Below.chain HB1.out (T7.mono hW).below
  have KK := Lib.hid K; have HHW := Lib.hid HW
  have hD : Below W7.heap.size W7 W7.drew := (Below.refl _ _).drew
  clear K HW T7 HB1 hp
  go_region_held3 (fun w' => w'.cell? ⟨p, 0, none⟩ = some (.string a1) ∧ w'.cell? ⟨p, 1, none⟩ = some (.string a2) ∧ w'.cell? ⟨p + 1, 0, none⟩ = some (.string b1) ∧ w'.cell? ⟨p + 1, 1, none⟩ = some (.string b2)) (first | (with_reducible exact KK.out _ hD) | (with_reducible exact KK.out _ hV1) | (with_reducible exact KK.out _ hV2) | fail) (first
    | (go_at_call 163; refine (K2.out _).mono ?_; rintro e w8 ⟨rfl, hb8⟩; have hV1 := Below.chain hD hb8)
    | (go_at_call 204; refine (K3.out _ (HHW.out _ hV1)).mono ?_; rintro e w9 ⟨rfl, hb9⟩; have hV2 := Below.chain hV1 hb9))
  all_goals
    have hB := HHW.out _ hV2
    go_wp2_with (go_at_call 39; refine (K4.out _ hB).mono ?_; rintro e w10 ⟨rfl, hb10⟩; refine Hid.out ?_)
    have hB2 := Below.chain hB hb10
    have HB2 := Lib.hid hB2; clear hB2 hb10 hB
    refine Lib.hid ?_
    go_wp2
    refine bodyPost_ret (by simp [results, Tryz.results111, go_sem]; rfl) rfl ?_
    exact ⟨rfl, HB2.out⟩

set_option maxHeartbeats 2000000 in
theorem comp1_10 (s t a1 a2 b1 b2 u v : ByteArray) (w : World)
    (C1 : ∀ W : World, Below w.heap.size w W → Calls Tryz.prog 106 #[.string s, .string t] W (Bret (.tuple #[.agg #[.string a1, .string a2], .agg #[.string b1, .string b2], .int .i64 0]) W))
    (C3 : ∀ W : World, Below w.heap.size w W → Calls Tryz.prog 204 #[.agg #[.string a1, .string a2], .agg #[.string b1, .string b2]] W (Bret (.tuple #[.string u, .string v, .int .i64 10]) W)) :
    Calls Tryz.prog 111 #[.int .u8 43, .string s, .string t] w (Bret (.tuple #[.string ⟨#[]⟩, .int .i64 10]) w) := by
  have C2 : ∀ W : World, Calls Tryz.prog 163 #[.int .u8 43] W (Bret (.func (.func 204) #[] #[]) W) := fun W => operationOf_runs W 43 _ (.inl ⟨rfl, rfl⟩)
  have K1 := Lib.hid C1; have K2 := Lib.hid C2; have K3 := Lib.hid C3
  clear C1 C2 C3
  go_enter Tryz.func111, Tryz.ntmps111
  go_wp2_with (go_at_call 106; refine (K1.out _ (Below.refl _ _)).mono ?_; rintro e w1 ⟨rfl, hb1⟩; refine Hid.out ?_)
  have T7 := tbox_new w1 103 a1 a2 b1 b2
  have HB1 := Lib.hid hb1; clear hb1
  refine Lib.hid ?_
  go_wp2_with fail
  generalize ((w1.alloc (Obj.cells #[Value.string a1, Value.string a2] 103)).alloc (Obj.cells #[Value.string b1, Value.string b2] 103)) = W7 at *
  generalize hp : w1.heap.size = p at *
  have K : ∀ W : World, Below W7.heap.size W7 W → W.cell? ⟨p, 0, none⟩ = some (.string a1) ∧ W.cell? ⟨p, 1, none⟩ = some (.string a2) ∧ W.cell? ⟨p + 1, 0, none⟩ = some (.string b1) ∧ W.cell? ⟨p + 1, 1, none⟩ = some (.string b2) := fun W hW => ⟨(T7.mono hW).a0, (T7.mono hW).a1, (T7.mono hW).c0, (T7.mono hW).c1⟩
  have HW : ∀ W : World, Below W7.heap.size W7 W → Below w.heap.size w W := fun W hW => Below.chain HB1.out (T7.mono hW).below
  have KK := Lib.hid K; have HHW := Lib.hid HW
  have hD : Below W7.heap.size W7 W7.drew := (Below.refl _ _).drew
  clear K HW T7 HB1 hp
  go_region_held3 (fun w' => w'.cell? ⟨p, 0, none⟩ = some (.string a1) ∧ w'.cell? ⟨p, 1, none⟩ = some (.string a2) ∧ w'.cell? ⟨p + 1, 0, none⟩ = some (.string b1) ∧ w'.cell? ⟨p + 1, 1, none⟩ = some (.string b2)) (first | (with_reducible exact KK.out _ hD) | (with_reducible exact KK.out _ hV1) | (with_reducible exact KK.out _ hV2) | fail) (first
    | (go_at_call 163; refine (K2.out _).mono ?_; rintro e w8 ⟨rfl, hb8⟩; have hV1 := Below.chain hD hb8)
    | (go_at_call 204; refine (K3.out _ (HHW.out _ hV1)).mono ?_; rintro e w9 ⟨rfl, hb9⟩; have hV2 := Below.chain hV1 hb9))
  all_goals
    have hB := HHW.out _ hV2
    have HB2 := Lib.hid hB; clear hB
    go_wp2
    refine bodyPost_ret (by simp [results, Tryz.results111, go_sem]; rfl) rfl ?_
    exact ⟨rfl, HB2.out⟩

set_option maxHeartbeats 2000000 in
theorem comp2_0 (s t a1 a2 b1 b2 u v r : ByteArray) (w : World)
    (C1 : ∀ W : World, Below w.heap.size w W → Calls Tryz.prog 106 #[.string s, .string t] W (Bret (.tuple #[.agg #[.string a1, .string a2], .agg #[.string b1, .string b2], .int .i64 0]) W))
    (C3 : ∀ W : World, Below w.heap.size w W → Calls Tryz.prog 206 #[.agg #[.string a1, .string a2], .agg #[.string b1, .string b2]] W (Bret (.tuple #[.string u, .string v, .int .i64 0]) W))
    (C4 : ∀ W : World, Below w.heap.size w W → Calls Tryz.prog 39 #[.string u, .string v] W (Bret (.tuple #[.string r, .int .i64 0]) W)) :
    Calls Tryz.prog 111 #[.int .u8 45, .string s, .string t] w (Bret (.tuple #[.string r, .int .i64 0]) w) := by
  have C2 : ∀ W : World, Calls Tryz.prog 163 #[.int .u8 45] W (Bret (.func (.func 206) #[] #[]) W) := fun W => operationOf_runs W 45 _ (.inr (.inl ⟨rfl, rfl⟩))
  have K1 := Lib.hid C1; have K2 := Lib.hid C2; have K3 := Lib.hid C3; have K4 := Lib.hid C4
  clear C1 C2 C3 C4
  go_enter Tryz.func111, Tryz.ntmps111
  go_wp2_with (go_at_call 106; refine (K1.out _ (Below.refl _ _)).mono ?_; rintro e w1 ⟨rfl, hb1⟩; refine Hid.out ?_)
  have T7 := tbox_new w1 103 a1 a2 b1 b2
  have HB1 := Lib.hid hb1; clear hb1
  refine Lib.hid ?_
  go_wp2_with fail
  generalize ((w1.alloc (Obj.cells #[Value.string a1, Value.string a2] 103)).alloc (Obj.cells #[Value.string b1, Value.string b2] 103)) = W7 at *
  generalize hp : w1.heap.size = p at *
  have K : ∀ W : World, Below W7.heap.size W7 W → W.cell? ⟨p, 0, none⟩ = some (.string a1) ∧ W.cell? ⟨p, 1, none⟩ = some (.string a2) ∧ W.cell? ⟨p + 1, 0, none⟩ = some (.string b1) ∧ W.cell? ⟨p + 1, 1, none⟩ = some (.string b2) := fun W hW => ⟨(T7.mono hW).a0, (T7.mono hW).a1, (T7.mono hW).c0, (T7.mono hW).c1⟩
  have HW : ∀ W : World, Below W7.heap.size W7 W → Below w.heap.size w W := fun W hW => Below.chain HB1.out (T7.mono hW).below
  have KK := Lib.hid K; have HHW := Lib.hid HW
  have hD : Below W7.heap.size W7 W7.drew := (Below.refl _ _).drew
  clear K HW T7 HB1 hp
  go_region_held3 (fun w' => w'.cell? ⟨p, 0, none⟩ = some (.string a1) ∧ w'.cell? ⟨p, 1, none⟩ = some (.string a2) ∧ w'.cell? ⟨p + 1, 0, none⟩ = some (.string b1) ∧ w'.cell? ⟨p + 1, 1, none⟩ = some (.string b2)) (first | (with_reducible exact KK.out _ hD) | (with_reducible exact KK.out _ hV1) | (with_reducible exact KK.out _ hV2) | fail) (first
    | (go_at_call 163; refine (K2.out _).mono ?_; rintro e w8 ⟨rfl, hb8⟩; have hV1 := Below.chain hD hb8)
    | (go_at_call 206; refine (K3.out _ (HHW.out _ hV1)).mono ?_; rintro e w9 ⟨rfl, hb9⟩; have hV2 := Below.chain hV1 hb9))
  all_goals
    have hB := HHW.out _ hV2
    go_wp2_with (go_at_call 39; refine (K4.out _ hB).mono ?_; rintro e w10 ⟨rfl, hb10⟩; refine Hid.out ?_)
    have hB2 := Below.chain hB hb10
    have HB2 := Lib.hid hB2; clear hB2 hb10 hB
    refine Lib.hid ?_
    go_wp2
    refine bodyPost_ret (by simp [results, Tryz.results111, go_sem]; rfl) rfl ?_
    exact ⟨rfl, HB2.out⟩

set_option maxHeartbeats 2000000 in
theorem comp2_10 (s t a1 a2 b1 b2 u v : ByteArray) (w : World)
    (C1 : ∀ W : World, Below w.heap.size w W → Calls Tryz.prog 106 #[.string s, .string t] W (Bret (.tuple #[.agg #[.string a1, .string a2], .agg #[.string b1, .string b2], .int .i64 0]) W))
    (C3 : ∀ W : World, Below w.heap.size w W → Calls Tryz.prog 206 #[.agg #[.string a1, .string a2], .agg #[.string b1, .string b2]] W (Bret (.tuple #[.string u, .string v, .int .i64 10]) W)) :
    Calls Tryz.prog 111 #[.int .u8 45, .string s, .string t] w (Bret (.tuple #[.string ⟨#[]⟩, .int .i64 10]) w) := by
  have C2 : ∀ W : World, Calls Tryz.prog 163 #[.int .u8 45] W (Bret (.func (.func 206) #[] #[]) W) := fun W => operationOf_runs W 45 _ (.inr (.inl ⟨rfl, rfl⟩))
  have K1 := Lib.hid C1; have K2 := Lib.hid C2; have K3 := Lib.hid C3
  clear C1 C2 C3
  go_enter Tryz.func111, Tryz.ntmps111
  go_wp2_with (go_at_call 106; refine (K1.out _ (Below.refl _ _)).mono ?_; rintro e w1 ⟨rfl, hb1⟩; refine Hid.out ?_)
  have T7 := tbox_new w1 103 a1 a2 b1 b2
  have HB1 := Lib.hid hb1; clear hb1
  refine Lib.hid ?_
  go_wp2_with fail
  generalize ((w1.alloc (Obj.cells #[Value.string a1, Value.string a2] 103)).alloc (Obj.cells #[Value.string b1, Value.string b2] 103)) = W7 at *
  generalize hp : w1.heap.size = p at *
  have K : ∀ W : World, Below W7.heap.size W7 W → W.cell? ⟨p, 0, none⟩ = some (.string a1) ∧ W.cell? ⟨p, 1, none⟩ = some (.string a2) ∧ W.cell? ⟨p + 1, 0, none⟩ = some (.string b1) ∧ W.cell? ⟨p + 1, 1, none⟩ = some (.string b2) := fun W hW => ⟨(T7.mono hW).a0, (T7.mono hW).a1, (T7.mono hW).c0, (T7.mono hW).c1⟩
  have HW : ∀ W : World, Below W7.heap.size W7 W → Below w.heap.size w W := fun W hW => Below.chain HB1.out (T7.mono hW).below
  have KK := Lib.hid K; have HHW := Lib.hid HW
  have hD : Below W7.heap.size W7 W7.drew := (Below.refl _ _).drew
  clear K HW T7 HB1 hp
  go_region_held3 (fun w' => w'.cell? ⟨p, 0, none⟩ = some (.string a1) ∧ w'.cell? ⟨p, 1, none⟩ = some (.string a2) ∧ w'.cell? ⟨p + 1, 0, none⟩ = some (.string b1) ∧ w'.cell? ⟨p + 1, 1, none⟩ = some (.string b2)) (first | (with_reducible exact KK.out _ hD) | (with_reducible exact KK.out _ hV1) | (with_reducible exact KK.out _ hV2) | fail) (first
    | (go_at_call 163; refine (K2.out _).mono ?_; rintro e w8 ⟨rfl, hb8⟩; have hV1 := Below.chain hD hb8)
    | (go_at_call 206; refine (K3.out _ (HHW.out _ hV1)).mono ?_; rintro e w9 ⟨rfl, hb9⟩; have hV2 := Below.chain hV1 hb9))
  all_goals
    have hB := HHW.out _ hV2
    have HB2 := Lib.hid hB; clear hB
    go_wp2
    refine bodyPost_ret (by simp [results, Tryz.results111, go_sem]; rfl) rfl ?_
    exact ⟨rfl, HB2.out⟩

set_option maxHeartbeats 2000000 in
theorem comp3_0 (s t a1 a2 b1 b2 u v r : ByteArray) (w : World)
    (C1 : ∀ W : World, Below w.heap.size w W → Calls Tryz.prog 106 #[.string s, .string t] W (Bret (.tuple #[.agg #[.string a1, .string a2], .agg #[.string b1, .string b2], .int .i64 0]) W))
    (C3 : ∀ W : World, Below w.heap.size w W → Calls Tryz.prog 207 #[.agg #[.string a1, .string a2], .agg #[.string b1, .string b2]] W (Bret (.tuple #[.string u, .string v, .int .i64 0]) W))
    (C4 : ∀ W : World, Below w.heap.size w W → Calls Tryz.prog 39 #[.string u, .string v] W (Bret (.tuple #[.string r, .int .i64 0]) W)) :
    Calls Tryz.prog 111 #[.int .u8 42, .string s, .string t] w (Bret (.tuple #[.string r, .int .i64 0]) w) := by
  have C2 : ∀ W : World, Calls Tryz.prog 163 #[.int .u8 42] W (Bret (.func (.func 207) #[] #[]) W) := fun W => operationOf_runs W 42 _ (.inr (.inr (.inl ⟨rfl, rfl⟩)))
  have K1 := Lib.hid C1; have K2 := Lib.hid C2; have K3 := Lib.hid C3; have K4 := Lib.hid C4
  clear C1 C2 C3 C4
  go_enter Tryz.func111, Tryz.ntmps111
  go_wp2_with (go_at_call 106; refine (K1.out _ (Below.refl _ _)).mono ?_; rintro e w1 ⟨rfl, hb1⟩; refine Hid.out ?_)
  have T7 := tbox_new w1 103 a1 a2 b1 b2
  have HB1 := Lib.hid hb1; clear hb1
  refine Lib.hid ?_
  go_wp2_with fail
  generalize ((w1.alloc (Obj.cells #[Value.string a1, Value.string a2] 103)).alloc (Obj.cells #[Value.string b1, Value.string b2] 103)) = W7 at *
  generalize hp : w1.heap.size = p at *
  have K : ∀ W : World, Below W7.heap.size W7 W → W.cell? ⟨p, 0, none⟩ = some (.string a1) ∧ W.cell? ⟨p, 1, none⟩ = some (.string a2) ∧ W.cell? ⟨p + 1, 0, none⟩ = some (.string b1) ∧ W.cell? ⟨p + 1, 1, none⟩ = some (.string b2) := fun W hW => ⟨(T7.mono hW).a0, (T7.mono hW).a1, (T7.mono hW).c0, (T7.mono hW).c1⟩
  have HW : ∀ W : World, Below W7.heap.size W7 W → Below w.heap.size w W := fun W hW => Below.chain HB1.out (T7.mono hW).below
  have KK := Lib.hid K; have HHW := Lib.hid HW
  have hD : Below W7.heap.size W7 W7.drew := (Below.refl _ _).drew
  clear K HW T7 HB1 hp
  go_region_held3 (fun w' => w'.cell? ⟨p, 0, none⟩ = some (.string a1) ∧ w'.cell? ⟨p, 1, none⟩ = some (.string a2) ∧ w'.cell? ⟨p + 1, 0, none⟩ = some (.string b1) ∧ w'.cell? ⟨p + 1, 1, none⟩ = some (.string b2)) (first | (with_reducible exact KK.out _ hD) | (with_reducible exact KK.out _ hV1) | (with_reducible exact KK.out _ hV2) | fail) (first
    | (go_at_call 163; refine (K2.out _).mono ?_; rintro e w8 ⟨rfl, hb8⟩; have hV1 := Below.chain hD hb8)
    | (go_at_call 207; refine (K3.out _ (HHW.out _ hV1)).mono ?_; rintro e w9 ⟨rfl, hb9⟩; have hV2 := Below.chain hV1 hb9))
  all_goals
    have hB := HHW.out _ hV2
    go_wp2_with (go_at_call 39; refine (K4.out _ hB).mono ?_; rintro e w10 ⟨rfl, hb10⟩; refine Hid.out ?_)
    have hB2 := Below.chain hB hb10
    have HB2 := Lib.hid hB2; clear hB2 hb10 hB
    refine Lib.hid ?_
    go_wp2
    refine bodyPost_ret (by simp [results, Tryz.results111, go_sem]; rfl) rfl ?_
    exact ⟨rfl, HB2.out⟩

set_option maxHeartbeats 2000000 in
theorem comp3_10 (s t a1 a2 b1 b2 u v : ByteArray) (w : World)
    (C1 : ∀ W : World, Below w.heap.size w W → Calls Tryz.prog 106 #[.string s, .string t] W (Bret (.tuple #[.agg #[.string a1, .string a2], .agg #[.string b1, .string b2], .int .i64 0]) W))
    (C3 : ∀ W : World, Below w.heap.size w W → Calls Tryz.prog 207 #[.agg #[.string a1, .string a2], .agg #[.string b1, .string b2]] W (Bret (.tuple #[.string u, .string v, .int .i64 10]) W)) :
    Calls Tryz.prog 111 #[.int .u8 42, .string s, .string t] w (Bret (.tuple #[.string ⟨#[]⟩, .int .i64 10]) w) := by
  have C2 : ∀ W : World, Calls Tryz.prog 163 #[.int .u8 42] W (Bret (.func (.func 207) #[] #[]) W) := fun W => operationOf_runs W 42 _ (.inr (.inr (.inl ⟨rfl, rfl⟩)))
  have K1 := Lib.hid C1; have K2 := Lib.hid C2; have K3 := Lib.hid C3
  clear C1 C2 C3
  go_enter Tryz.func111, Tryz.ntmps111
  go_wp2_with (go_at_call 106; refine (K1.out _ (Below.refl _ _)).mono ?_; rintro e w1 ⟨rfl, hb1⟩; refine Hid.out ?_)
  have T7 := tbox_new w1 103 a1 a2 b1 b2
  have HB1 := Lib.hid hb1; clear hb1
  refine Lib.hid ?_
  go_wp2_with fail
  generalize ((w1.alloc (Obj.cells #[Value.string a1, Value.string a2] 103)).alloc (Obj.cells #[Value.string b1, Value.string b2] 103)) = W7 at *
  generalize hp : w1.heap.size = p at *
  have K : ∀ W : World, Below W7.heap.size W7 W → W.cell? ⟨p, 0, none⟩ = some (.string a1) ∧ W.cell? ⟨p, 1, none⟩ = some (.string a2) ∧ W.cell? ⟨p + 1, 0, none⟩ = some (.string b1) ∧ W.cell? ⟨p + 1, 1, none⟩ = some (.string b2) := fun W hW => ⟨(T7.mono hW).a0, (T7.mono hW).a1, (T7.mono hW).c0, (T7.mono hW).c1⟩
  have HW : ∀ W : World, Below W7.heap.size W7 W → Below w.heap.size w W := fun W hW => Below.chain HB1.out (T7.mono hW).below
  have KK := Lib.hid K; have HHW := Lib.hid HW
  have hD : Below W7.heap.size W7 W7.drew := (Below.refl _ _).drew
  clear K HW T7 HB1 hp
  go_region_held3 (fun w' => w'.cell? ⟨p, 0, none⟩ = some (.string a1) ∧ w'.cell? ⟨p, 1, none⟩ = some (.string a2) ∧ w'.cell? ⟨p + 1, 0, none⟩ = some (.string b1) ∧ w'.cell? ⟨p + 1, 1, none⟩ = some (.string b2)) (first | (with_reducible exact KK.out _ hD) | (with_reducible exact KK.out _ hV1) | (with_reducible exact KK.out _ hV2) | fail) (first
    | (go_at_call 163; refine (K2.out _).mono ?_; rintro e w8 ⟨rfl, hb8⟩; have hV1 := Below.chain hD hb8)
    | (go_at_call 207; refine (K3.out _ (HHW.out _ hV1)).mono ?_; rintro e w9 ⟨rfl, hb9⟩; have hV2 := Below.chain hV1 hb9))
  all_goals
    have hB := HHW.out _ hV2
    have HB2 := Lib.hid hB; clear hB
    go_wp2
    refine bodyPost_ret (by simp [results, Tryz.results111, go_sem]; rfl) rfl ?_
    exact ⟨rfl, HB2.out⟩

set_option maxHeartbeats 2000000 in
theorem comp4_0 (s t a1 a2 b1 b2 u v r : ByteArray) (w : World)
    (C1 : ∀ W : World, Below w.heap.size w W → Calls Tryz.prog 106 #[.string s, .string t] W (Bret (.tuple #[.agg #[.string a1, .string a2], .agg #[.string b1, .string b2], .int .i64 0]) W))
    (C3 : ∀ W : World, Below w.heap.size w W → Calls Tryz.prog 208 #[.agg #[.string a1, .string a2], .agg #[.string b1, .string b2]] W (Bret (.tuple #[.string u, .string v, .int .i64 0]) W))
    (C4 : ∀ W : World, Below w.heap.size w W → Calls Tryz.prog 39 #[.string u, .string v] W (Bret (.tuple #[.string r, .int .i64 0]) W)) :
    Calls Tryz.prog 111 #[.int .u8 47, .string s, .string t] w (Bret (.tuple #[.string r, .int .i64 0]) w) := by
  have C2 : ∀ W : World, Calls Tryz.prog 163 #[.int .u8 47] W (Bret (.func (.func 208) #[] #[]) W) := fun W => operationOf_runs W 47 _ (.inr (.inr (.inr ⟨rfl, rfl⟩)))
  have K1 := Lib.hid C1; have K2 := Lib.hid C2; have K3 := Lib.hid C3; have K4 := Lib.hid C4
  clear C1 C2 C3 C4
  go_enter Tryz.func111, Tryz.ntmps111
  go_wp2_with (go_at_call 106; refine (K1.out _ (Below.refl _ _)).mono ?_; rintro e w1 ⟨rfl, hb1⟩; refine Hid.out ?_)
  have T7 := tbox_new w1 103 a1 a2 b1 b2
  have HB1 := Lib.hid hb1; clear hb1
  refine Lib.hid ?_
  go_wp2_with fail
  generalize ((w1.alloc (Obj.cells #[Value.string a1, Value.string a2] 103)).alloc (Obj.cells #[Value.string b1, Value.string b2] 103)) = W7 at *
  generalize hp : w1.heap.size = p at *
  have K : ∀ W : World, Below W7.heap.size W7 W → W.cell? ⟨p, 0, none⟩ = some (.string a1) ∧ W.cell? ⟨p, 1, none⟩ = some (.string a2) ∧ W.cell? ⟨p + 1, 0, none⟩ = some (.string b1) ∧ W.cell? ⟨p + 1, 1, none⟩ = some (.string b2) := fun W hW => ⟨(T7.mono hW).a0, (T7.mono hW).a1, (T7.mono hW).c0, (T7.mono hW).c1⟩
  have HW : ∀ W : World, Below W7.heap.size W7 W → Below w.heap.size w W := fun W hW => Below.chain HB1.out (T7.mono hW).below
  have KK := Lib.hid K; have HHW := Lib.hid HW
  have hD : Below W7.heap.size W7 W7.drew := (Below.refl _ _).drew
  clear K HW T7 HB1 hp
  go_region_held3 (fun w' => w'.cell? ⟨p, 0, none⟩ = some (.string a1) ∧ w'.cell? ⟨p, 1, none⟩ = some (.string a2) ∧ w'.cell? ⟨p + 1, 0, none⟩ = some (.string b1) ∧ w'.cell? ⟨p + 1, 1, none⟩ = some (.string b2)) (first | (with_reducible exact KK.out _ hD) | (with_reducible exact KK.out _ hV1) | (with_reducible exact KK.out _ hV2) | fail) (first
    | (go_at_call 163; refine (K2.out _).mono ?_; rintro e w8 ⟨rfl, hb8⟩; have hV1 := Below.chain hD hb8)
    | (go_at_call 208; refine (K3.out _ (HHW.out _ hV1)).mono ?_; rintro e w9 ⟨rfl, hb9⟩; have hV2 := Below.chain hV1 hb9))
  all_goals
    have hB := HHW.out _ hV2
    go_wp2_with (go_at_call 39; refine (K4.out _ hB).mono ?_; rintro e w10 ⟨rfl, hb10⟩; refine Hid.out ?_)
    have hB2 := Below.chain hB hb10
    have HB2 := Lib.hid hB2; clear hB2 hb10 hB
    refine Lib.hid ?_
    go_wp2
    refine bodyPost_ret (by simp [results, Tryz.results111, go_sem]; rfl) rfl ?_
    exact ⟨rfl, HB2.out⟩

set_option maxHeartbeats 2000000 in
theorem comp4_10 (s t a1 a2 b1 b2 u v : ByteArray) (w : World)
    (C1 : ∀ W : World, Below w.heap.size w W → Calls Tryz.prog 106 #[.string s, .string t] W (Bret (.tuple #[.agg #[.string a1, .string a2], .agg #[.string b1, .string b2], .int .i64 0]) W))
    (C3 : ∀ W : World, Below w.heap.size w W → Calls Tryz.prog 208 #[.agg #[.string a1, .string a2], .agg #[.string b1, .string b2]] W (Bret (.tuple #[.string u, .string v, .int .i64 10]) W)) :
    Calls Tryz.prog 111 #[.int .u8 47, .string s, .string t] w (Bret (.tuple #[.string ⟨#[]⟩, .int .i64 10]) w) := by
  have C2 : ∀ W : World, Calls Tryz.prog 163 #[.int .u8 47] W (Bret (.func (.func 208) #[] #[]) W) := fun W => operationOf_runs W 47 _ (.inr (.inr (.inr ⟨rfl, rfl⟩)))
  have K1 := Lib.hid C1; have K2 := Lib.hid C2; have K3 := Lib.hid C3
  clear C1 C2 C3
  go_enter Tryz.func111, Tryz.ntmps111
  go_wp2_with (go_at_call 106; refine (K1.out _ (Below.refl _ _)).mono ?_; rintro e w1 ⟨rfl, hb1⟩; refine Hid.out ?_)
  have T7 := tbox_new w1 103 a1 a2 b1 b2
  have HB1 := Lib.hid hb1; clear hb1
  refine Lib.hid ?_
  go_wp2_with fail
  generalize ((w1.alloc (Obj.cells #[Value.string a1, Value.string a2] 103)).alloc (Obj.cells #[Value.string b1, Value.string b2] 103)) = W7 at *
  generalize hp : w1.heap.size = p at *
  have K : ∀ W : World, Below W7.heap.size W7 W → W.cell? ⟨p, 0, none⟩ = some (.string a1) ∧ W.cell? ⟨p, 1, none⟩ = some (.string a2) ∧ W.cell? ⟨p + 1, 0, none⟩ = some (.string b1) ∧ W.cell? ⟨p + 1, 1, none⟩ = some (.string b2) := fun W hW => ⟨(T7.mono hW).a0, (T7.mono hW).a1, (T7.mono hW).c0, (T7.mono hW).c1⟩
  have HW : ∀ W : World, Below W7.heap.size W7 W → Below w.heap.size w W := fun W hW => Below.chain HB1.out (T7.mono hW).below
  have KK := Lib.hid K; have HHW := Lib.hid HW
  have hD : Below W7.heap.size W7 W7.drew := (Below.refl _ _).drew
  clear K HW T7 HB1 hp
  go_region_held3 (fun w' => w'.cell? ⟨p, 0, none⟩ = some (.string a1) ∧ w'.cell? ⟨p, 1, none⟩ = some (.string a2) ∧ w'.cell? ⟨p + 1, 0, none⟩ = some (.string b1) ∧ w'.cell? ⟨p + 1, 1, none⟩ = some (.string b2)) (first | (with_reducible exact KK.out _ hD) | (with_reducible exact KK.out _ hV1) | (with_reducible exact KK.out _ hV2) | fail) (first
    | (go_at_call 163; refine (K2.out _).mono ?_; rintro e w8 ⟨rfl, hb8⟩; have hV1 := Below.chain hD hb8)
    | (go_at_call 208; refine (K3.out _ (HHW.out _ hV1)).mono ?_; rintro e w9 ⟨rfl, hb9⟩; have hV2 := Below.chain hV1 hb9))
  all_goals
    have hB := HHW.out _ hV2
    have HB2 := Lib.hid hB; clear hB
    go_wp2
    refine bodyPost_ret (by simp [results, Tryz.results111, go_sem]; rfl) rfl ?_
    exact ⟨rfl, HB2.out⟩

set_option maxHeartbeats 2000000 in
theorem comp4_19 (s t a1 a2 b1 b2 u v : ByteArray) (w : World)
    (C1 : ∀ W : World, Below w.heap.size w W → Calls Tryz.prog 106 #[.string s, .string t] W (Bret (.tuple #[.agg #[.string a1, .string a2], .agg #[.string b1, .string b2], .int .i64 0]) W))
    (C3 : ∀ W : World, Below w.heap.size w W → Calls Tryz.prog 208 #[.agg #[.string a1, .string a2], .agg #[.string b1, .string b2]] W (Bret (.tuple #[.string u, .string v, .int .i64 19]) W)) :
    Calls Tryz.prog 111 #[.int .u8 47, .string s, .string t] w (Bret (.tuple #[.string ⟨#[]⟩, .int .i64 19]) w) := by
  have C2 : ∀ W : World, Calls Tryz.prog 163 #[.int .u8 47] W (Bret (.func (.func 208) #[] #[]) W) := fun W => operationOf_runs W 47 _ (.inr (.inr (.inr ⟨rfl, rfl⟩)))
  have K1 := Lib.hid C1; have K2 := Lib.hid C2; have K3 := Lib.hid C3
  clear C1 C2 C3
  go_enter Tryz.func111, Tryz.ntmps111
  go_wp2_with (go_at_call 106; refine (K1.out _ (Below.refl _ _)).mono ?_; rintro e w1 ⟨rfl, hb1⟩; refine Hid.out ?_)
  have T7 := tbox_new w1 103 a1 a2 b1 b2
  have HB1 := Lib.hid hb1; clear hb1
  refine Lib.hid ?_
  go_wp2_with fail
  generalize ((w1.alloc (Obj.cells #[Value.string a1, Value.string a2] 103)).alloc (Obj.cells #[Value.string b1, Value.string b2] 103)) = W7 at *
  generalize hp : w1.heap.size = p at *
  have K : ∀ W : World, Below W7.heap.size W7 W → W.cell? ⟨p, 0, none⟩ = some (.string a1) ∧ W.cell? ⟨p, 1, none⟩ = some (.string a2) ∧ W.cell? ⟨p + 1, 0, none⟩ = some (.string b1) ∧ W.cell? ⟨p + 1, 1, none⟩ = some (.string b2) := fun W hW => ⟨(T7.mono hW).a0, (T7.mono hW).a1, (T7.mono hW).c0, (T7.mono hW).c1⟩
  have HW : ∀ W : World, Below W7.heap.size W7 W → Below w.heap.size w W := fun W hW => Below.chain HB1.out (T7.mono hW).below
  have KK := Lib.hid K; have HHW := Lib.hid HW
  have hD : Below W7.heap.size W7 W7.drew := (Below.refl _ _).drew
  clear K HW T7 HB1 hp
  go_region_held3 (fun w' => w'.cell? ⟨p, 0, none⟩ = some (.string a1) ∧ w'.cell? ⟨p, 1, none⟩ = some (.string a2) ∧ w'.cell? ⟨p + 1, 0, none⟩ = some (.string b1) ∧ w'.cell? ⟨p + 1, 1, none⟩ = some (.string b2)) (first | (with_reducible exact KK.out _ hD) | (with_reducible exact KK.out _ hV1) | (with_reducible exact KK.out _ hV2) | fail) (first
    | (go_at_call 163; refine (K2.out _).mono ?_; rintro e w8 ⟨rfl, hb8⟩; have hV1 := Below.chain hD hb8)
    | (go_at_call 208; refine (K3.out _ (HHW.out _ hV1)).mono ?_; rintro e w9 ⟨rfl, hb9⟩; have hV2 := Below.chain hV1 hb9))
  all_goals
    have hB := HHW.out _ hV2
    have HB2 := Lib.hid hB; clear hB
    go_wp2
    refine bodyPost_ret (by simp [results, Tryz.results111, go_sem]; rfl) rfl ?_
    exact ⟨rfl, HB2.out⟩

set_option maxHeartbeats 1000000 in
theorem comp_bad3 (k : Int) (s t u v x y : ByteArray) (w : World)
    (C1 : ∀ W : World, Below w.heap.size w W → Calls Tryz.prog 106 #[.string s, .string t] W (Bret (.tuple #[.agg #[.string u, .string v], .agg #[.string x, .string y], .int .i64 3]) W)) :
    Calls Tryz.prog 111 #[.int .u8 k, .string s, .string t] w (Bret (.tuple #[.string ⟨#[]⟩, .int .i64 3]) w) := by
  have K1 := Lib.hid C1; clear C1
  go_enter Tryz.func111, Tryz.ntmps111
  go_wp2_with (go_at_call 106; refine (K1.out _ (Below.refl _ _)).mono ?_; rintro e w1 ⟨rfl, hb1⟩; refine Hid.out ?_)
  have B2 : Below w.heap.size w ((w1.alloc (Obj.cells #[Value.string u, Value.string v] 103)).alloc (Obj.cells #[Value.string x, Value.string y] 103)) := Below.chain hb1 (by go_grown)
  have HB2 := Lib.hid B2; clear B2 hb1
  refine Lib.hid ?_
  go_wp2
  refine bodyPost_ret (by simp [results, Tryz.results111, go_sem]; rfl) rfl ?_
  exact ⟨rfl, HB2.out⟩
set_option maxHeartbeats 1000000 in
theorem comp_bad10 (k : Int) (s t u v x y : ByteArray) (w : World)
    (C1 : ∀ W : World, Below w.heap.size w W → Calls Tryz.prog 106 #[.string s, .string t] W (Bret (.tuple #[.agg #[.string u, .string v], .agg #[.string x, .string y], .int .i64 10]) W)) :
    Calls Tryz.prog 111 #[.int .u8 k, .string s, .string t] w (Bret (.tuple #[.string ⟨#[]⟩, .int .i64 10]) w) := by
  have K1 := Lib.hid C1; clear C1
  go_enter Tryz.func111, Tryz.ntmps111
  go_wp2_with (go_at_call 106; refine (K1.out _ (Below.refl _ _)).mono ?_; rintro e w1 ⟨rfl, hb1⟩; refine Hid.out ?_)
  have B2 : Below w.heap.size w ((w1.alloc (Obj.cells #[Value.string u, Value.string v] 103)).alloc (Obj.cells #[Value.string x, Value.string y] 103)) := Below.chain hb1 (by go_grown)
  have HB2 := Lib.hid B2; clear B2 hb1
  refine Lib.hid ?_
  go_wp2
  refine bodyPost_ret (by simp [results, Tryz.results111, go_sem]; rfl) rfl ?_
  exact ⟨rfl, HB2.out⟩
end Go.Proofs.YtbadibbdoljjhaaGreatDoor
