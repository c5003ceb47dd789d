import Derived.Test.YtbadibbdoljjhaaGreatDoorCut31

set_option linter.unusedVariables false
/-
  RationalMakes, RationalChecks, RationalComputes: the walks.
-/
namespace Go.Proofs.YtbadibbdoljjhaaGreatDoor
open Go Go.Proofs Go.RowKit

set_option maxRecDepth 20000 in
set_option maxHeartbeats 4000000 in
theorem makes_walk (s t : ByteArray) (w : World) (hs : s.size ≤ 9223372036854775807) (ht : t.size ≤ 9223372036854775807)
    (htab : Lib.TabIs Tryz.prog w "internal/strconv.uint64pow10" .u64 Lib.pow10Tab) :
    Calls Tryz.prog 5 #[.string s, .string t] w fun e w' => e = .returned (.bool true) ∧ Below w.heap.size w w' := by
  have hT := Lib.tabBelow_of_tabIs htab
  have CA : ∀ W : World, Below w.heap.size w W → Calls Tryz.prog 26 #[] W (Bret (.bool true) W) := fun W hW => awake02 W (hT.on hW).here
  by_cases h : s.size ≤ 300 ∧ t.size ≤ 300
  · obtain ⟨z1, z2⟩ := h
    have C1 : ∀ W : World, Below w.heap.size w W → Calls Tryz.prog 39 #[.string s, .string t] W (Bret (ofR (bytes s) (bytes t)) W) := fun W hW => ofR_any s t W hs ht (hT.on hW).here
    have C2 : ∀ W : World, Below w.heap.size w W → Calls Tryz.prog 40 #[.string s, .string t] W (Bret (ofR (bytes s) (bytes t)) W) := fun W hW => refOf02 s t W hs ht
    obtain ⟨u, e, hr⟩ := ofR_parts (bytes s) (bytes t)
    rw [hr] at C1 C2
    have K1 := Lib.hid C1; have K2 := Lib.hid C2; have KA := Lib.hid CA
    clear C1 C2 CA hr hs ht hT htab
    go_enter Tryz.func5, Tryz.ntmps5
    go_wp2_with (go_at_call 39; refine (K1.out _ (Below.refl _ _)).mono ?_; rintro e w1 ⟨rfl, hb1⟩; refine Hid.out ?_)
    refine Lib.hid ?_
    go_wp2_with (go_at_call 40; refine (K2.out _ hb1).mono ?_; rintro e w2 ⟨rfl, hb2⟩; refine Hid.out ?_)
    have hB2 := Below.chain hb1 hb2; clear hb2 hb1
    refine Lib.hid ?_
    go_wp2_with (go_at_call 26; refine (KA.out _ hB2).mono ?_; rintro e w3 ⟨rfl, hb3⟩; refine Hid.out ?_)
    have hB3 := Below.chain hB2 hb3; clear hb3 hB2
    refine Lib.hid ?_
    go_wp2
    refine bodyPost_ret (v := .bool true) (by simp [results, Tryz.results5, go_sem]) rfl ?_
    exact ⟨rfl, hB3⟩
  · have KA := Lib.hid CA
    clear CA hT htab
    by_cases z1 : s.size ≤ 300
    · have z2 : ¬ t.size ≤ 300 := fun k => h ⟨z1, k⟩
      clear h
      go_enter Tryz.func5, Tryz.ntmps5
      go_wp2_with (go_at_call 26; refine (KA.out _ (Below.refl _ _)).mono ?_; rintro e w1 ⟨rfl, hb1⟩; refine Hid.out ?_)
      refine Lib.hid ?_
      go_wp2
      refine bodyPost_ret (v := .bool true) (by simp [results, Tryz.results5, go_sem]) rfl ?_
      exact ⟨rfl, hb1⟩
    · clear h
      go_enter Tryz.func5, Tryz.ntmps5
      go_wp2_with (go_at_call 26; refine (KA.out _ (Below.refl _ _)).mono ?_; rintro e w1 ⟨rfl, hb1⟩; refine Hid.out ?_)
      refine Lib.hid ?_
      go_wp2
      refine bodyPost_ret (v := .bool true) (by simp [results, Tryz.results5, go_sem]) rfl ?_
      exact ⟨rfl, hb1⟩
theorem ratR1_numQ_parts (a : List UInt8) : ∃ (u : ByteArray) (e : Nat), ratR1 numQ a = .tuple #[.string u, .int .i64 e] := by
  unfold ratR1 numQ; split
  · exact ⟨_, 0, rfl⟩
  · exact ⟨_, _, rfl⟩
theorem ratR1_denQ_parts (a : List UInt8) : ∃ (u : ByteArray) (e : Nat), ratR1 denQ a = .tuple #[.string u, .int .i64 e] := by
  unfold ratR1 denQ; split
  · exact ⟨_, 0, rfl⟩
  · exact ⟨_, _, rfl⟩
theorem ratR1_negQ_parts (a : List UInt8) : ∃ (u : ByteArray) (e : Nat), ratR1 negQ a = .tuple #[.string u, .int .i64 e] := by
  unfold ratR1 negQ; split
  · exact ⟨_, 0, rfl⟩
  · exact ⟨_, _, rfl⟩
theorem ratR1_floorQ_parts (a : List UInt8) : ∃ (u : ByteArray) (e : Nat), ratR1 floorQ a = .tuple #[.string u, .int .i64 e] := by
  unfold ratR1 floorQ; split
  · exact ⟨_, 0, rfl⟩
  · exact ⟨_, _, rfl⟩
theorem ratR1_ceilQ_parts (a : List UInt8) : ∃ (u : ByteArray) (e : Nat), ratR1 ceilQ a = .tuple #[.string u, .int .i64 e] := by
  unfold ratR1 ceilQ; split
  · exact ⟨_, 0, rfl⟩
  · exact ⟨_, _, rfl⟩
set_option maxRecDepth 20000 in
set_option maxHeartbeats 8000000 in
theorem rchecks_walk (s : ByteArray) (w : World) (hs : s.size ≤ 9223372036854775807)
    (htab : Lib.TabIs Tryz.prog w "internal/strconv.uint64pow10" .u64 Lib.pow10Tab) :
    Calls Tryz.prog 4 #[.string s] w fun e w' => e = .returned (.bool true) ∧ Below w.heap.size w w' := by
  have hT := Lib.tabBelow_of_tabIs htab
  have CA : ∀ W : World, Below w.heap.size w W → Calls Tryz.prog 26 #[] W (Bret (.bool true) W) := fun W hW => awake02 W (hT.on hW).here
  have C0 := fun W => refFew02 s W hs
  by_cases h : s.size ≤ 300
  · rw [show decide (s.size ≤ 300) = true from decide_eq_true h] at C0
    have z1 : s.size ≤ 1000000000 := by omega
    have z2 : s.size ≤ 800000 := by omega
    have C1 : ∀ W : World, Below w.heap.size w W → Calls Tryz.prog 27 #[.string s] W (Bret (ratR1 numQ (bytes s)) W) := fun W hW => ratNum s W z1 (hT.on hW).here
    have C2 : ∀ W : World, Below w.heap.size w W → Calls Tryz.prog 28 #[.string s] W (Bret (ratR1 denQ (bytes s)) W) := fun W hW => ratDen s W z1 (hT.on hW).here
    have C3 : ∀ W : World, Below w.heap.size w W → Calls Tryz.prog 29 #[.string s] W (Bret (ratR1 negQ (bytes s)) W) := fun W hW => ratNeg s W z1 (hT.on hW).here
    have C4 : ∀ W : World, Below w.heap.size w W → Calls Tryz.prog 30 #[.string s] W (Bret (ratR1 floorQ (bytes s)) W) := fun W hW => ratFloor s W z1 (hT.on hW).here
    have C5 : ∀ W : World, Below w.heap.size w W → Calls Tryz.prog 31 #[.string s] W (Bret (ratR1 ceilQ (bytes s)) W) := fun W hW => ratCeil s W z1 (hT.on hW).here
    have C6 : ∀ W : World, Below w.heap.size w W → Calls Tryz.prog 32 #[.string s] W (Bret (ratR1 numQ (bytes s)) W) := fun W hW => refNum02 s W z2
    have C7 : ∀ W : World, Below w.heap.size w W → Calls Tryz.prog 33 #[.string s] W (Bret (ratR1 denQ (bytes s)) W) := fun W hW => refDen02 s W z2
    have C8 : ∀ W : World, Below w.heap.size w W → Calls Tryz.prog 34 #[.string s] W (Bret (ratR1 negQ (bytes s)) W) := fun W hW => refNeg02 s W z2
    have C9 : ∀ W : World, Below w.heap.size w W → Calls Tryz.prog 35 #[.string s] W (Bret (ratR1 floorQ (bytes s)) W) := fun W hW => refFloor02 s W z2
    have C10 : ∀ W : World, Below w.heap.size w W → Calls Tryz.prog 36 #[.string s] W (Bret (ratR1 ceilQ (bytes s)) W) := fun W hW => refCeil02 s W z2
    have C11 : ∀ W : World, Below w.heap.size w W → Calls Tryz.prog 37 #[.string s] W (Bret (.int .i64 (rerr (bytes s) : Nat)) W) := fun W hW => ratCheck s W z1 (hT.on hW).here
    have C12 : ∀ W : World, Below w.heap.size w W → Calls Tryz.prog 38 #[.string s] W (Bret (.int .i64 (rerr (bytes s) : Nat)) W) := fun W hW => refCheck02 s W z2
    obtain ⟨u0, e0, h0⟩ := ratR1_numQ_parts (bytes s)
    rw [h0] at C1 C6
    obtain ⟨u1, e1, h1⟩ := ratR1_denQ_parts (bytes s)
    rw [h1] at C2 C7
    obtain ⟨u2, e2, h2⟩ := ratR1_negQ_parts (bytes s)
    rw [h2] at C3 C8
    obtain ⟨u3, e3, h3⟩ := ratR1_floorQ_parts (bytes s)
    rw [h3] at C4 C9
    obtain ⟨u4, e4, h4⟩ := ratR1_ceilQ_parts (bytes s)
    rw [h4] at C5 C10
    generalize rerr (bytes s) = er at *
    have K0 := Lib.hid C0; have K1 := Lib.hid C1; have K2 := Lib.hid C2; have K3 := Lib.hid C3; have K4 := Lib.hid C4; have K5 := Lib.hid C5; have K6 := Lib.hid C6; have K7 := Lib.hid C7; have K8 := Lib.hid C8; have K9 := Lib.hid C9; have K10 := Lib.hid C10; have K11 := Lib.hid C11; have K12 := Lib.hid C12; have KA := Lib.hid CA
    clear C0 C1 C2 C3 C4 C5 C6 C7 C8 C9 C10 C11 C12 CA h0 h1 h2 h3 h4 hs hT htab z1 z2 h
    go_enter Tryz.func4, Tryz.ntmps4
    go_wp2_with (go_at_call 25; refine (K0.out _).mono ?_; rintro e w1 ⟨rfl, h⟩; subst h; refine Hid.out ?_)
    refine Lib.hid ?_
    go_wp2_with (go_at_call 27; refine (K1.out _ (Below.refl _ _)).mono ?_; rintro e w2 ⟨rfl, hb2⟩; refine Hid.out ?_)
    refine Lib.hid ?_
    go_wp2_with (go_at_call 28; refine (K2.out _ hb2).mono ?_; rintro e w3 ⟨rfl, hb3⟩; refine Hid.out ?_)
    have hB3 := Below.chain hb2 hb3; clear hb3 hb2
    refine Lib.hid ?_
    go_wp2_with (go_at_call 29; refine (K3.out _ hB3).mono ?_; rintro e w4 ⟨rfl, hb4⟩; refine Hid.out ?_)
    have hB4 := Below.chain hB3 hb4; clear hb4 hB3
    refine Lib.hid ?_
    go_wp2_with (go_at_call 30; refine (K4.out _ hB4).mono ?_; rintro e w5 ⟨rfl, hb5⟩; refine Hid.out ?_)
    have hB5 := Below.chain hB4 hb5; clear hb5 hB4
    refine Lib.hid ?_
    go_wp2_with (go_at_call 31; refine (K5.out _ hB5).mono ?_; rintro e w6 ⟨rfl, hb6⟩; refine Hid.out ?_)
    have hB6 := Below.chain hB5 hb6; clear hb6 hB5
    refine Lib.hid ?_
    go_wp2_with (go_at_call 32; refine (K6.out _ hB6).mono ?_; rintro e w7 ⟨rfl, hb7⟩; refine Hid.out ?_)
    have hB7 := Below.chain hB6 hb7; clear hb7 hB6
    refine Lib.hid ?_
    go_wp2_with (go_at_call 33; refine (K7.out _ hB7).mono ?_; rintro e w8 ⟨rfl, hb8⟩; refine Hid.out ?_)
    have hB8 := Below.chain hB7 hb8; clear hb8 hB7
    refine Lib.hid ?_
    go_wp2_with (go_at_call 34; refine (K8.out _ hB8).mono ?_; rintro e w9 ⟨rfl, hb9⟩; refine Hid.out ?_)
    have hB9 := Below.chain hB8 hb9; clear hb9 hB8
    refine Lib.hid ?_
    go_wp2_with (go_at_call 35; refine (K9.out _ hB9).mono ?_; rintro e w10 ⟨rfl, hb10⟩; refine Hid.out ?_)
    have hB10 := Below.chain hB9 hb10; clear hb10 hB9
    refine Lib.hid ?_
    go_wp2_with (go_at_call 36; refine (K10.out _ hB10).mono ?_; rintro e w11 ⟨rfl, hb11⟩; refine Hid.out ?_)
    have hB11 := Below.chain hB10 hb11; clear hb11 hB10
    refine Lib.hid ?_
    go_wp2_with (go_at_call 26; refine (KA.out _ hB11).mono ?_; rintro e w12 ⟨rfl, hb12⟩; refine Hid.out ?_)
    have hB12 := Below.chain hB11 hb12; clear hb12 hB11
    refine Lib.hid ?_
    go_wp2_with (go_at_call 37; refine (K11.out _ hB12).mono ?_; rintro e w13 ⟨rfl, hb13⟩; refine Hid.out ?_)
    have hB13 := Below.chain hB12 hb13; clear hb13 hB12
    refine Lib.hid ?_
    go_wp2_with (go_at_call 38; refine (K12.out _ hB13).mono ?_; rintro e w14 ⟨rfl, hb14⟩; refine Hid.out ?_)
    have hB14 := Below.chain hB13 hb14; clear hb14 hB13
    refine Lib.hid ?_
    go_wp2
    refine bodyPost_ret (v := .bool true) (by simp [results, Tryz.results4, go_sem]) rfl ?_
    exact ⟨rfl, hB14⟩
  · rw [show decide (s.size ≤ 300) = false from decide_eq_false h] at C0
    have K0 := Lib.hid C0; have KA := Lib.hid CA
    clear C0 CA hT htab hs h
    go_enter Tryz.func4, Tryz.ntmps4
    go_wp2_with (go_at_call 25; refine (K0.out _).mono ?_; rintro e w1 ⟨rfl, h⟩; subst h; refine Hid.out ?_)
    refine Lib.hid ?_
    go_wp2_with (go_at_call 26; refine (KA.out _ (Below.refl _ _)).mono ?_; rintro e w2 ⟨rfl, hb2⟩; refine Hid.out ?_)
    refine Lib.hid ?_
    go_wp2
    refine bodyPost_ret (v := .bool true) (by simp [results, Tryz.results4, go_sem]) rfl ?_
    exact ⟨rfl, hb2⟩
set_option maxRecDepth 20000 in
set_option maxHeartbeats 8000000 in
theorem computes_walk (s t : ByteArray) (w : World) (hs : s.size ≤ 9223372036854775807) (ht : t.size ≤ 9223372036854775807)
    (htab : Lib.TabIs Tryz.prog w "internal/strconv.uint64pow10" .u64 Lib.pow10Tab) :
    Calls Tryz.prog 6 #[.string s, .string t] w fun e w' => e = .returned (.bool true) ∧ Below w.heap.size w w' := by
  have hT := Lib.tabBelow_of_tabIs htab
  have CA : ∀ W : World, Below w.heap.size w W → Calls Tryz.prog 26 #[] W (Bret (.bool true) W) := fun W hW => awake02 W (hT.on hW).here
  have C0 := fun W => refFew02 s W hs
  have D0 := fun W => refFew02 t W ht
  by_cases h : s.size ≤ 300
  · rw [show decide (s.size ≤ 300) = true from decide_eq_true h] at C0
    by_cases k : t.size ≤ 300
    · rw [show decide (t.size ≤ 300) = true from decide_eq_true k] at D0
      have z1 : s.size ≤ 1000000000 := by omega
      have z2 : s.size ≤ 800000 := by omega
      have y1 : t.size ≤ 1000000000 := by omega
      have y2 : t.size ≤ 800000 := by omega
      have C1 : ∀ W : World, Below w.heap.size w W → Calls Tryz.prog 41 #[.string s, .string t] W (Bret (ratCmp (bytes s) (bytes t)) W) := fun W hW => ratCompare s t W z1 y1 (hT.on hW).here
      have C2 : ∀ W : World, Below w.heap.size w W → Calls Tryz.prog 42 #[.string s, .string t] W (Bret (ratCmp (bytes s) (bytes t)) W) := fun W hW => refCompare02 s t W z2 y2
      have C3 : ∀ W : World, Below w.heap.size w W → Calls Tryz.prog 43 #[.string s, .string t] W (Bret (ratR2 addQ (bytes s) (bytes t)) W) := fun W hW => ratAdd s t W z1 y1 (hT.on hW).here
      have C4 : ∀ W : World, Below w.heap.size w W → Calls Tryz.prog 44 #[.string s, .string t] W (Bret (ratR2 addQ (bytes s) (bytes t)) W) := fun W hW => refAdd02 s t W z2 y2
      have C5 : ∀ W : World, Below w.heap.size w W → Calls Tryz.prog 45 #[.string s, .string t] W (Bret (ratR2 subQ (bytes s) (bytes t)) W) := fun W hW => ratSub s t W z1 y1 (hT.on hW).here
      have C6 : ∀ W : World, Below w.heap.size w W → Calls Tryz.prog 46 #[.string s, .string t] W (Bret (ratR2 subQ (bytes s) (bytes t)) W) := fun W hW => refSub02 s t W z2 y2
      have C7 : ∀ W : World, Below w.heap.size w W → Calls Tryz.prog 47 #[.string s, .string t] W (Bret (ratR2 mulQ (bytes s) (bytes t)) W) := fun W hW => ratMul s t W z1 y1 (hT.on hW).here
      have C8 : ∀ W : World, Below w.heap.size w W → Calls Tryz.prog 48 #[.string s, .string t] W (Bret (ratR2 mulQ (bytes s) (bytes t)) W) := fun W hW => refMul02 s t W z2 y2
      have C9 : ∀ W : World, Below w.heap.size w W → Calls Tryz.prog 49 #[.string s, .string t] W (Bret (ratR2 divQ (bytes s) (bytes t)) W) := fun W hW => ratDiv s t W z1 y1 (hT.on hW).here
      have C10 : ∀ W : World, Below w.heap.size w W → Calls Tryz.prog 50 #[.string s, .string t] W (Bret (ratR2 divQ (bytes s) (bytes t)) W) := fun W hW => refDiv02 s t W z2 y2
      obtain ⟨c, e, hc⟩ := ratCmp_parts (bytes s) (bytes t)
      rw [hc] at C1 C2
      obtain ⟨u0, e0, h0⟩ := ratR2_addQ_parts (bytes s) (bytes t)
      rw [h0] at C3 C4
      obtain ⟨u1, e1, h1⟩ := ratR2_subQ_parts (bytes s) (bytes t)
      rw [h1] at C5 C6
      obtain ⟨u2, e2, h2⟩ := ratR2_mulQ_parts (bytes s) (bytes t)
      rw [h2] at C7 C8
      obtain ⟨u3, e3, h3⟩ := ratR2_divQ_parts (bytes s) (bytes t)
      rw [h3] at C9 C10
      have KD := Lib.hid D0; have K0 := Lib.hid C0; have K1 := Lib.hid C1; have K2 := Lib.hid C2; have K3 := Lib.hid C3; have K4 := Lib.hid C4; have K5 := Lib.hid C5; have K6 := Lib.hid C6; have K7 := Lib.hid C7; have K8 := Lib.hid C8; have K9 := Lib.hid C9; have K10 := Lib.hid C10; have KA := Lib.hid CA
      clear D0 C0 C1 C2 C3 C4 C5 C6 C7 C8 C9 C10 CA hc h0 h1 h2 h3 hs ht hT htab z1 z2 y1 y2 h k
      go_enter Tryz.func6, Tryz.ntmps6
      go_wp2_with (go_at_call 25; refine (K0.out _).mono ?_; rintro e w1 ⟨rfl, h⟩; subst h; refine Hid.out ?_)
      refine Lib.hid ?_
      go_wp2_with (go_at_call 25; refine (KD.out _).mono ?_; rintro e w2 ⟨rfl, h⟩; subst h; refine Hid.out ?_)
      refine Lib.hid ?_
      go_wp2_with (go_at_call 41; refine (K1.out _ (Below.refl _ _)).mono ?_; rintro e w3 ⟨rfl, hb3⟩; refine Hid.out ?_)
      refine Lib.hid ?_
      go_wp2_with (go_at_call 42; refine (K2.out _ hb3).mono ?_; rintro e w4 ⟨rfl, hb4⟩; refine Hid.out ?_)
      have hB4 := Below.chain hb3 hb4; clear hb4 hb3
      refine Lib.hid ?_
      go_wp2_with (go_at_call 26; refine (KA.out _ hB4).mono ?_; rintro e w5 ⟨rfl, hb5⟩; refine Hid.out ?_)
      have hB5 := Below.chain hB4 hb5; clear hb5 hB4
      refine Lib.hid ?_
      go_wp2_with (go_at_call 43; refine (K3.out _ hB5).mono ?_; rintro e w6 ⟨rfl, hb6⟩; refine Hid.out ?_)
      have hB6 := Below.chain hB5 hb6; clear hb6 hB5
      refine Lib.hid ?_
      go_wp2_with (go_at_call 44; refine (K4.out _ hB6).mono ?_; rintro e w7 ⟨rfl, hb7⟩; refine Hid.out ?_)
      have hB7 := Below.chain hB6 hb7; clear hb7 hB6
      refine Lib.hid ?_
      go_wp2_with (go_at_call 45; refine (K5.out _ hB7).mono ?_; rintro e w8 ⟨rfl, hb8⟩; refine Hid.out ?_)
      have hB8 := Below.chain hB7 hb8; clear hb8 hB7
      refine Lib.hid ?_
      go_wp2_with (go_at_call 46; refine (K6.out _ hB8).mono ?_; rintro e w9 ⟨rfl, hb9⟩; refine Hid.out ?_)
      have hB9 := Below.chain hB8 hb9; clear hb9 hB8
      refine Lib.hid ?_
      go_wp2_with (go_at_call 47; refine (K7.out _ hB9).mono ?_; rintro e w10 ⟨rfl, hb10⟩; refine Hid.out ?_)
      have hB10 := Below.chain hB9 hb10; clear hb10 hB9
      refine Lib.hid ?_
      go_wp2_with (go_at_call 48; refine (K8.out _ hB10).mono ?_; rintro e w11 ⟨rfl, hb11⟩; refine Hid.out ?_)
      have hB11 := Below.chain hB10 hb11; clear hb11 hB10
      refine Lib.hid ?_
      go_wp2_with (go_at_call 49; refine (K9.out _ hB11).mono ?_; rintro e w12 ⟨rfl, hb12⟩; refine Hid.out ?_)
      have hB12 := Below.chain hB11 hb12; clear hb12 hB11
      refine Lib.hid ?_
      go_wp2_with (go_at_call 50; refine (K10.out _ hB12).mono ?_; rintro e w13 ⟨rfl, hb13⟩; refine Hid.out ?_)
      have hB13 := Below.chain hB12 hb13; clear hb13 hB12
      refine Lib.hid ?_
      go_wp2
      refine bodyPost_ret (v := .bool true) (by simp [results, Tryz.results6, go_sem]) rfl ?_
      exact ⟨rfl, hB13⟩
    · rw [show decide (t.size ≤ 300) = false from decide_eq_false k] at D0
      have K0 := Lib.hid C0; have KD := Lib.hid D0; have KA := Lib.hid CA
      clear C0 D0 CA hT htab hs ht h k
      go_enter Tryz.func6, Tryz.ntmps6
      go_wp2_with (go_at_call 25; refine (K0.out _).mono ?_; rintro e w1 ⟨rfl, h⟩; subst h; refine Hid.out ?_)
      refine Lib.hid ?_
      go_wp2_with (go_at_call 25; refine (KD.out _).mono ?_; rintro e w2 ⟨rfl, h⟩; subst h; refine Hid.out ?_)
      refine Lib.hid ?_
      go_wp2_with (go_at_call 26; refine (KA.out _ (Below.refl _ _)).mono ?_; rintro e w3 ⟨rfl, hb3⟩; refine Hid.out ?_)
      refine Lib.hid ?_
      go_wp2
      refine bodyPost_ret (v := .bool true) (by simp [results, Tryz.results6, go_sem]) rfl ?_
      exact ⟨rfl, hb3⟩
  · rw [show decide (s.size ≤ 300) = false from decide_eq_false h] at C0
    have K0 := Lib.hid C0; have KA := Lib.hid CA
    clear C0 D0 CA hT htab hs ht h
    go_enter Tryz.func6, Tryz.ntmps6
    go_wp2_with (go_at_call 25; refine (K0.out _).mono ?_; rintro e w1 ⟨rfl, h⟩; subst h; refine Hid.out ?_)
    refine Lib.hid ?_
    go_wp2_with (go_at_call 26; refine (KA.out _ (Below.refl _ _)).mono ?_; rintro e w2 ⟨rfl, hb2⟩; refine Hid.out ?_)
    refine Lib.hid ?_
    go_wp2
    refine bodyPost_ret (v := .bool true) (by simp [results, Tryz.results6, go_sem]) rfl ?_
    exact ⟨rfl, hb2⟩
end Go.Proofs.YtbadibbdoljjhaaGreatDoor
