import Derived.Deep.RegionHeld3
import Derived.Test.YtjobmkdaaionlaaGreatDoorCut29
import Derived.Test.YtjobmkdaaionlaaGreatDoorCut30
import Derived.Test.YtjobmkdaaionlaaGreatDoorCut23

set_option linter.unusedVariables false
/-
  linear: boxes; numbers once more; checkBoth.
-/
set_option linter.unusedSimpArgs false
namespace Go.Proofs.YtjobmkdaaionlaaGreatDoor
open Go Go.Proofs Go.RowKit
structure Bx2 (W : World) (p : Nat) (u v : Value) : Prop where
  c0 : W.cell? ⟨p, 0, none⟩ = some u
  c1 : W.cell? ⟨p, 1, none⟩ = some v
  f0 : W.frozen? ⟨p, 0, none⟩ = false
  f1 : W.frozen? ⟨p, 1, none⟩ = false
  lt : p < W.heap.size
theorem Bx2.mono {W W' : World} {p : Nat} {u v : Value} (h : Bx2 W p u v) (g : Below W.heap.size W W') : Bx2 W' p u v :=
  ⟨(g.cell (p := ⟨p, 0, none⟩) h.lt).trans h.c0, (g.cell (p := ⟨p, 1, none⟩) h.lt).trans h.c1, (g.frozen (p := ⟨p, 0, none⟩) h.lt).trans h.f0, (g.frozen (p := ⟨p, 1, none⟩) h.lt).trans h.f1, Nat.lt_of_lt_of_le h.lt g.size⟩
theorem Bx2.new (w : World) (u v : Value) (T : TypeId) : Bx2 (w.alloc (Obj.cells #[u, v] T)) w.heap.size u v := ⟨by go_cell, by go_cell, by go_cell, by go_cell, by simp⟩
theorem Bx2.over {W : World} {p : Nat} {u v : Value} (h : Bx2 W p u v) (o : Obj) : Bx2 (W.alloc o) p u v := h.mono ((Below.refl _ _).alloc (Nat.le_refl _) _)
theorem entry1 (w : World) (u v : Value) (T : TypeId) : Bx2 (w.alloc (Obj.cells #[u, v] T)) w.heap.size u v ∧ Below w.heap.size w (w.alloc (Obj.cells #[u, v] T)) ∧ (w.alloc (Obj.cells #[u, v] T)).heap.size = w.heap.size + 1 :=
  ⟨Bx2.new w u v T, (Below.refl _ _).alloc (Nat.le_refl _) _, by simp⟩
theorem entry2 (w : World) (u v s t : Value) (T : TypeId) : Bx2 ((w.alloc (Obj.cells #[u, v] T)).alloc (Obj.cells #[s, t] T)) w.heap.size u v ∧ Bx2 ((w.alloc (Obj.cells #[u, v] T)).alloc (Obj.cells #[s, t] T)) (w.heap.size + 1) s t ∧ Below w.heap.size w ((w.alloc (Obj.cells #[u, v] T)).alloc (Obj.cells #[s, t] T)) := by
  refine ⟨(Bx2.new w u v T).over _, ?_, ((Below.refl _ _).alloc (Nat.le_refl _) _).alloc (by simp) _⟩
  have := Bx2.new (w.alloc (Obj.cells #[u, v] T)) s t T
  rwa [show (w.alloc (Obj.cells #[u, v] T)).heap.size = w.heap.size + 1 by simp] at this
theorem entry3 (w : World) (u v s t x y : Value) (T : TypeId) : Bx2 (((w.alloc (Obj.cells #[u, v] T)).alloc (Obj.cells #[s, t] T)).alloc (Obj.cells #[x, y] T)) w.heap.size u v ∧ Bx2 (((w.alloc (Obj.cells #[u, v] T)).alloc (Obj.cells #[s, t] T)).alloc (Obj.cells #[x, y] T)) (w.heap.size + 1) s t ∧
    Bx2 (((w.alloc (Obj.cells #[u, v] T)).alloc (Obj.cells #[s, t] T)).alloc (Obj.cells #[x, y] T)) (w.heap.size + 1 + 1) x y ∧ Below w.heap.size w (((w.alloc (Obj.cells #[u, v] T)).alloc (Obj.cells #[s, t] T)).alloc (Obj.cells #[x, y] T)) := by
  obtain ⟨h1, h2, h3⟩ := entry2 w u v s t T
  refine ⟨h1.over _, h2.over _, ?_, h3.alloc (by simp; omega) _⟩
  have := Bx2.new ((w.alloc (Obj.cells #[u, v] T)).alloc (Obj.cells #[s, t] T)) x y T
  rwa [show ((w.alloc (Obj.cells #[u, v] T)).alloc (Obj.cells #[s, t] T)).heap.size = w.heap.size + 1 + 1 by simp] at this
def NumRet (m : List ByteArray) (w : World) (e : Ending) (w' : World) : Prop := ∃ g c2, e = .returned (.slice (some ⟨g, 0, none⟩) m.length c2) ∧ SBlk 22 w' g m ∧ SRow w' (some ⟨g, 0, none⟩) c2 m ∧ m.length ≤ c2 ∧ c2 ≤ 9223372036854775807 ∧ w.heap.size ≤ g ∧ Below w.heap.size w w'
theorem numbersN (l : List ByteArray) (k : ByteArray) (ao : Option Addr) (c : Nat) (w : World) (hr : SRow w ao c l) (hn : l.length ≤ 1200000) :
    Calls Tryz.prog 54 #[.agg #[.slice ao l.length c, .string k]] w (NumRet (l ++ [k]) w) :=
  (numbers_any l k ao c w hr hn).mono fun e w' ⟨v, h1, h2, h3⟩ => by
    have hl : l.length + 1 = (l ++ [k]).length := by simp
    rw [hl] at h2
    have h2' := h2
    rcases h2'.2 with ⟨-, h0⟩ | ⟨g, cap, cur, rfl, hb, -⟩
    · simp at h0
    · obtain ⟨q1, -, q3, q4, q5⟩ := sblk_of_owns h2
      exact ⟨g, cap, h1, q1, q1.row q3 q4, q3, q4, q5, h3⟩
theorem linE_cases (l : List ByteArray) (k : ByteArray) : linE l k = 0 ∨ linE l k = 3 ∨ linE l k = 5 ∨ linE l k = 10 := by
  unfold linE
  split
  · exact .inr (.inr (.inl rfl))
  · rcases firstE_cases (l ++ [k]) with h | h | h
    · exact .inl h
    · exact .inr (.inl h)
    · exact .inr (.inr (.inr h))
def bothE (e f : Nat) : Nat := if e = 0 then f else e
set_option maxHeartbeats 2000000 in
theorem linCheckBoth (l : List ByteArray) (k : ByteArray) (ao : Option Addr) (c : Nat) (l2 : List ByteArray) (k2 : ByteArray) (ao2 : Option Addr) (c2 : Nat) (w : World)
    (hr : SRow w ao c l) (hz : ∀ s ∈ l ++ [k], s.size ≤ 1200000) (hn : l.length ≤ 1200000) (hr2 : SRow w ao2 c2 l2) (hz2 : ∀ s ∈ l2 ++ [k2], s.size ≤ 1200000) (hn2 : l2.length ≤ 1200000) (htab : Lib.TabIs Tryz.prog w "internal/strconv.uint64pow10" .u64 Lib.pow10Tab) :
    Calls Tryz.prog 52 #[.agg #[.slice ao l.length c, .string k], .agg #[.slice ao2 l2.length c2, .string k2]] w (Bret (.int .i64 (bothE (linE l k) (linE l2 k2) : Nat)) w) := by
  have hT := Lib.tabBelow_of_tabIs htab
  have C1 := fun (W : World) (hW : Below w.heap.size w W) => linCheck l k ao c W (hr.mono hW) hz hn (hT.on hW).here
  have C2 := fun (W : World) (hW : Below w.heap.size w W) => linCheck l2 k2 ao2 c2 W (hr2.mono hW) hz2 hn2 (hT.on hW).here
  have hc := linE_cases l k
  obtain ⟨X, Y, B⟩ := entry2 w (.slice ao l.length c) (.string k) (.slice ao2 l2.length c2) (.string k2) 27
  generalize linE l k = e1 at *
  generalize linE l2 k2 = e2 at *
  clear hr hz hn hr2 hz2 hn2 htab hT
  generalize l.length = n at *
  generalize l2.length = n2 at *
  have K1 := Lib.hid C1; have K2 := Lib.hid C2; clear C1 C2
  rcases hc with rfl | rfl | rfl | rfl
  · go_enter Tryz.func52, Tryz.ntmps52
    go_wp2_with (go_at_call 26; refine (K1.out _ B).mono ?_; rintro e w1 ⟨rfl, hb1⟩; refine Hid.out ?_)
    have Y1 := Y.mono hb1
    have q0 := Y1.c0; have q1 := Y1.c1; have q2 := Y1.lt
    have hB1 := Below.chain B hb1; clear hb1 X Y Y1 B
    refine Lib.hid ?_
    go_wp2_with (go_at_call 26; refine (K2.out _ hB1).mono ?_; rintro e w2 ⟨rfl, hb2⟩; refine Hid.out ?_)
    have HB2 := Lib.hid (Below.chain hB1 hb2); clear hb2 hB1 q0 q1 q2
    refine Lib.hid ?_
    go_wp2
    refine bodyPost_ret (v := .int .i64 (e2 : Nat)) (by simp [results, Tryz.results52, go_sem]) rfl ?_
    exact ⟨rfl, HB2.out⟩
  all_goals
    go_enter Tryz.func52, Tryz.ntmps52
    go_wp2_with (go_at_call 26; refine (K1.out _ B).mono ?_; rintro e w1 ⟨rfl, hb1⟩; refine Hid.out ?_)
    have HB1 := Lib.hid (Below.chain B hb1); clear hb1 X Y B
    refine Lib.hid ?_
    go_wp2
    refine bodyPost_ret (by simp [results, Tryz.results52, go_sem]; rfl) rfl ?_
    exact ⟨rfl, HB1.out⟩
theorem keep4 {W : World} {p q r o : Nat} {v u0 u1 v0 v1 : Value} (h : (W.cell? ⟨p, 0, none⟩ = some u0 ∧ W.cell? ⟨p, 1, none⟩ = some u1) ∧ (W.cell? ⟨q, 0, none⟩ = some v0 ∧ W.cell? ⟨q, 1, none⟩ = some v1)) (hp : p ≠ r) (hq : q ≠ r) :
    ((W.setCell ⟨r, o, none⟩ v).cell? ⟨p, 0, none⟩ = some u0 ∧ (W.setCell ⟨r, o, none⟩ v).cell? ⟨p, 1, none⟩ = some u1) ∧ ((W.setCell ⟨r, o, none⟩ v).cell? ⟨q, 0, none⟩ = some v0 ∧ (W.setCell ⟨r, o, none⟩ v).cell? ⟨q, 1, none⟩ = some v1) := by
  have f : ∀ (b x : Nat), b ≠ r → (W.setCell ⟨r, o, none⟩ v).cell? ⟨b, x, none⟩ = W.cell? ⟨b, x, none⟩ := fun b x hb => World.cell?_setCell_other W ⟨r, o, none⟩ ⟨b, x, none⟩ v (by intro e; injection e with e; exact hb e.symm)
  rw [f p 0 hp, f p 1 hp, f q 0 hq, f q 1 hq]; exact h
theorem linE_zero {l : List ByteArray} {k : ByteArray} (h : linE l k = 0) : l.length ≤ 32 ∧ ∀ s ∈ l ++ [k], Good 100 s := by
  unfold linE at h
  split at h
  · omega
  · refine ⟨by omega, ?_⟩
    generalize l ++ [k] = m at h
    induction m with
    | nil => intro s hs; cases hs
    | cons x t ih =>
      unfold firstE at h
      split at h
      · next hx =>
        intro s hs
        rcases List.mem_cons.1 hs with rfl | hs
        · exact good_of_numE hx
        · exact ih h s hs
      · contradiction
theorem bothE_zero {e f : Nat} (h : bothE e f = 0) : e = 0 ∧ f = 0 := by unfold bothE at h; split at h <;> omega
theorem bothE_cases {e f : Nat} (h1 : e = 0 ∨ e = 3 ∨ e = 5 ∨ e = 10) (h2 : f = 0 ∨ f = 3 ∨ f = 5 ∨ f = 10) : bothE e f = 0 ∨ bothE e f = 3 ∨ bothE e f = 5 ∨ bothE e f = 10 := by
  unfold bothE; split <;> omega
theorem good_sz {k : Nat} {m : List ByteArray} (h : ∀ s ∈ m, Good k s) (hk : k ≤ 4096) : ∀ s ∈ m, s.size ≤ 1200000 := fun s hs => by have := (h s hs).size hk; omega
theorem zip_good {i j : Nat} : ∀ {a b : List ByteArray}, (∀ s ∈ a, Good i s) → (∀ s ∈ b, Good j s) → ∀ s ∈ List.zipWith addT a b, Good (i + j + 1) s
  | [], _, _, _ => by intro s hs; simp at hs
  | _ :: _, [], _, _ => by intro s hs; simp at hs
  | x :: a, y :: b, ha, hb => by
    intro s hs
    rw [List.zipWith_cons_cons] at hs
    rcases List.mem_cons.1 hs with rfl | hs
    · exact (ha x (by simp)).add (hb y (by simp))
    · exact zip_good (fun s h => ha s (by simp [h])) (fun s h => hb s (by simp [h])) s hs
theorem zip_snoc (f : ByteArray → ByteArray → ByteArray) (a b : List ByteArray) (x y : ByteArray) (h : a.length = b.length) : List.zipWith f (a ++ [x]) (b ++ [y]) = List.zipWith f a b ++ [f x y] := by
  rw [List.zipWith_append h]; rfl
def addO (l : List ByteArray) (k : ByteArray) (l2 : List ByteArray) (k2 : ByteArray) : LOut :=
  if bothE (linE l k) (linE l2 k2) = 0 then (if l.length = l2.length then exprO (List.zipWith addT l l2) (addT k k2) else .bad 22) else .bad (bothE (linE l k) (linE l2 k2))
set_option maxHeartbeats 4000000 in
theorem linAdd (l : List ByteArray) (k : ByteArray) (ao : Option Addr) (c : Nat) (l2 : List ByteArray) (k2 : ByteArray) (ao2 : Option Addr) (c2 : Nat) (w : World)
    (hr : SRow w ao c l) (hz : ∀ s ∈ l ++ [k], s.size ≤ 1200000) (hn : l.length ≤ 1200000) (hr2 : SRow w ao2 c2 l2) (hz2 : ∀ s ∈ l2 ++ [k2], s.size ≤ 1200000) (hn2 : l2.length ≤ 1200000) (htab : Lib.TabIs Tryz.prog w "internal/strconv.uint64pow10" .u64 Lib.pow10Tab) :
    Calls Tryz.prog 20 #[.agg #[.slice ao l.length c, .string k], .agg #[.slice ao2 l2.length c2, .string k2]] w (LinRet w.heap.size (addO l k l2 k2) w) := by
  have hT := Lib.tabBelow_of_tabIs htab
  have CB := fun (W : World) (hW : Below w.heap.size w W) => linCheckBoth l k ao c l2 k2 ao2 c2 W (hr.mono hW) hz hn (hr2.mono hW) hz2 hn2 (hT.on hW).here
  have CA := fun (W : World) (hW : Below w.heap.size w W) => numbersN l k ao c W (hr.mono hW) hn
  have CA2 := fun (W : World) (hW : Below w.heap.size w W) => numbersN l2 k2 ao2 c2 W (hr2.mono hW) hn2
  have hcs := bothE_cases (linE_cases l k) (linE_cases l2 k2)
  obtain ⟨X, Y, Z, B⟩ := entry3 w (.slice ao l.length c) (.string k) (.slice ao2 l2.length c2) (.string k2) (.slice none 0 0) (.string ⟨#[]⟩) 27
  unfold addO
  by_cases h0 : bothE (linE l k) (linE l2 k2) = 0
  · rw [if_pos h0]
    obtain ⟨z1, z2⟩ := bothE_zero h0
    obtain ⟨g1, g2⟩ := linE_zero z1
    obtain ⟨g3, g4⟩ := linE_zero z2
    rw [h0] at CB
    by_cases hlen : l.length = l2.length
    · rw [if_pos hlen]
      have CS : ∀ (W : World) (ga ca gb cb : Nat), Below w.heap.size w W → SRow W (some ⟨ga, 0, none⟩) ca (l ++ [k]) → SRow W (some ⟨gb, 0, none⟩) cb (l2 ++ [k2]) → Calls Tryz.prog 53 #[.slice (some ⟨ga, 0, none⟩) (l ++ [k]).length ca, .slice (some ⟨gb, 0, none⟩) (l2 ++ [k2]).length cb] W fun e w' => ∃ g, e = .returned (.slice (some ⟨g, 0, none⟩) (l.length + 1) (l.length + 1)) ∧ SRow w' (some ⟨g, 0, none⟩) (l.length + 1) (List.zipWith addT l l2 ++ [addT k k2]) ∧ W.heap.size ≤ g ∧ Below W.heap.size W w' := fun W ga ca gb cb hW r1 r2 =>
        (sum_any (l ++ [k]) (l2 ++ [k2]) (some ⟨ga, 0, none⟩) ca gb 0 cb 100 100 W r1 r2 (by simp; omega) (by simp [hlen]) g2 g4 (by decide) (hT.on hW).here).mono fun e w' ⟨g, h1, h2, h3, h4⟩ => by
          rw [zip_snoc _ _ _ _ _ hlen] at h2
          refine ⟨g, by rw [h1]; simp, h2.row (by simp [hlen]) (by omega), h3, h4⟩
      have CE : ∀ (W : World) (g : Nat), Below w.heap.size w W → w.heap.size + 1 + 1 < g → SRow W (some ⟨g, 0, none⟩) (l.length + 1) (List.zipWith addT l l2 ++ [addT k k2]) → Calls Tryz.prog 46 #[.slice (some ⟨g, 0, none⟩) (l.length + 1) (l.length + 1)] W (LinRet (w.heap.size + 1 + 1 + 1) (exprO (List.zipWith addT l l2) (addT k k2)) W) := fun W g hW hg r => by
        have hl : (List.zipWith addT l l2).length = l.length := by simp [hlen]
        have gg : ∀ s ∈ List.zipWith addT l l2 ++ [addT k k2], Good 201 s := by rw [← zip_snoc _ _ _ _ _ hlen]; exact zip_good g2 g4
        have := expression_any (List.zipWith addT l l2) (addT k k2) (some ⟨g, 0, none⟩) (l.length + 1) W r (good_sz gg (by decide)) (by omega) (w.heap.size + 1 + 1 + 1) (fun a ha => by cases ha; exact hg)
        rwa [hl] at this
      clear hr hz hn hr2 hz2 hn2 htab hT hcs h0 z1 z2 g2 g4
      generalize exprO (List.zipWith addT l l2) (addT k k2) = O at *
      generalize List.zipWith addT l l2 ++ [addT k k2] = m3 at *
      have e1 : (l ++ [k]).length = l.length + 1 := by simp
      have e2 : (l2 ++ [k2]).length = l.length + 1 := by simp [hlen]
      unfold NumRet at CA CA2
      rw [e1] at CA CS
      rw [e2] at CA2 CS
      generalize l ++ [k] = m1 at *
      generalize l2 ++ [k2] = m2 at *
      clear e1 e2 g3
      generalize l2.length = n2 at *
      generalize l.length = n at *
      subst hlen
      have KB := Lib.hid CB; have KA := Lib.hid CA; have KA2 := Lib.hid CA2; have KS := Lib.hid CS; have KE := Lib.hid CE; clear CB CA CA2 CS CE
      go_enter Tryz.func20, Tryz.ntmps20
      go_wp2_with (go_at_call 52; refine (KB.out _ B).mono ?_; rintro e w1 ⟨rfl, hb1⟩; refine Hid.out ?_)
      have X1 := X.mono hb1; have Y1 := Y.mono hb1; have Z1 := Z.mono hb1
      have hB1 := Below.chain B hb1
      clear hb1 X Y Z B
      refine Lib.hid ?_
      have K : ∀ W : World, Below w1.heap.size w1 W → ((W.cell? ⟨w.heap.size, 0, none⟩ = some (.slice ao n c) ∧ W.cell? ⟨w.heap.size, 1, none⟩ = some (.string k)) ∧ (W.cell? ⟨w.heap.size + 1, 0, none⟩ = some (.slice ao2 n c2) ∧ W.cell? ⟨w.heap.size + 1, 1, none⟩ = some (.string k2))) ∧ Below w.heap.size w W ∧ Bx2 W (w.heap.size + 1 + 1) (.slice none 0 0) (.string ⟨#[]⟩) := fun W hW =>
        ⟨⟨⟨(X1.mono hW).c0, (X1.mono hW).c1⟩, ⟨(Y1.mono hW).c0, (Y1.mono hW).c1⟩⟩, Below.chain hB1 hW, Z1.mono hW⟩
      have x0 := X1.c0; have x1 := X1.c1; have y0 := Y1.c0; have y1 := Y1.c1
      have KK := Lib.hid K; clear K X1 Y1 Z1 hB1
      go_wp2_with fail
      clear x0 x1 y0 y1
      have NW : Below w1.heap.size w1 w1.drew := (Below.refl _ _).drew
      have HP := Lib.hid ((KK.out _ NW).2.2.lt)
      go_region_held3 (fun w' => (w'.cell? ⟨w.heap.size, 0, none⟩ = some (.slice ao n c) ∧ w'.cell? ⟨w.heap.size, 1, none⟩ = some (.string k)) ∧ (w'.cell? ⟨w.heap.size + 1, 0, none⟩ = some (.slice ao2 n c2) ∧ w'.cell? ⟨w.heap.size + 1, 1, none⟩ = some (.string k2)))
        (first | (with_reducible exact (KK.out _ NW).1) | (with_reducible exact keep4 (keep4 (KK.out _ NW).1 (by omega) (by omega)) (by omega) (by omega)))
        (first
        | (go_at_call 54; (with_reducible refine (KA.out _ (KK.out _ NW).2.1).mono ?_); rintro e wa ⟨ga, ca, rfl, -, ra, -, -, -, ha⟩; have NW := Below.chain NW ha; skip)
        | (go_at_call 54; (with_reducible refine (KA2.out _ (KK.out _ NW).2.1).mono ?_); rintro e wb ⟨gb, cb, rfl, -, rb, -, -, -, hb⟩; have NW := Below.chain NW hb; have ra := ra.mono hb)
        | (go_at_call 53; (with_reducible refine (KS.out _ ga ca gb cb (KK.out _ NW).2.1 ra rb).mono ?_); rintro e wz ⟨gz, rfl, rz, hgz, hz⟩; have hgz := Nat.lt_of_lt_of_le (KK.out _ NW).2.2.lt hgz; have NW := Below.chain NW hz)
        | (go_at_call 46; (with_reducible refine (KE.out _ gz (KK.out _ NW).2.1 hgz rz).mono ?_); rintro e we ⟨ae, ce, rfl, re, he⟩; have NW := Below.chain NW he; have z0 := (KK.out _ NW).2.2.c0; have z1 := (KK.out _ NW).2.2.c1; have z2 := (KK.out _ NW).2.2.f0; have z3 := (KK.out _ NW).2.2.f1; have z4 := (KK.out _ NW).2.2.lt))
      all_goals
        have q := (KK.out _ NW).2.2
        have HR := Lib.hid ((re.set (p := w.heap.size + 1 + 1) (by omega) 0 (.slice ae O.l.length ce)).set (p := w.heap.size + 1 + 1) (by omega) 1 (.string O.k))
        have HBB := Lib.hid (below2 (p := w.heap.size + 1 + 1) (KK.out _ NW).2.1 (by omega) (.slice ae O.l.length ce) (.string O.k))
        obtain ⟨q1, q2⟩ := box2 q.c0 q.c1 (.slice ae O.l.length ce) (.string O.k)
        clear q
        go_wp2
        refine bodyPost_ret (v := .tuple #[.agg #[.slice ae O.l.length ce, .string O.k], .int .i64 (O.e : Nat)]) (by simp [results, Tryz.results20, go_sem, q1, q2]) rfl ?_
        exact ⟨ae, ce, rfl, HR.out.lower (by omega), HBB.out⟩
    · rw [if_neg hlen]
      clear hcs h0 z1 z2 g2 g4 g1 g3
      clear hr hz hn hr2 hz2 hn2 htab hT CA CA2
      generalize l.length = n at *
      generalize l2.length = n2 at *
      have KB := Lib.hid CB; clear CB
      go_enter Tryz.func20, Tryz.ntmps20
      go_wp2_with (go_at_call 52; refine (KB.out _ B).mono ?_; rintro e w1 ⟨rfl, hb1⟩; refine Hid.out ?_)
      have Z1 := Z.mono hb1; have X1 := X.mono hb1; have Y1 := Y.mono hb1
      have z0 := Z1.c0; have z1 := Z1.c1; have z2 := Z1.f0; have z3 := Z1.f1; have z4 := Z1.lt; have x0 := X1.c0; have y0 := Y1.c0
      have q := box2 Z1.c0 Z1.c1 (.slice none 0 0) (.string ⟨#[]⟩)
      have HBB := Lib.hid (below2 (p := w.heap.size + 1 + 1) (Below.chain B hb1) (by omega) (.slice none 0 0) (.string ⟨#[]⟩))
      clear hb1 X Y Z B X1 Y1 Z1
      refine Lib.hid ?_
      go_wp2
      obtain ⟨q1, q2⟩ := q
      refine bodyPost_ret (v := .tuple #[.agg #[.slice none 0 0, .string ⟨#[]⟩], .int .i64 22]) (by simp [results, Tryz.results20, go_sem, q1, q2]) rfl ?_
      exact ⟨none, 0, rfl, RowB.nil _ _, HBB.out⟩
  · rw [if_neg h0]
    rcases hcs with h | h | h | h
    · exact absurd h h0
    all_goals
      rw [h] at CB ⊢
      clear h0 h
      clear hr hz hn hr2 hz2 hn2 htab hT CA CA2
      generalize l.length = n at *
      generalize l2.length = n2 at *
      have KB := Lib.hid CB; clear CB
      go_enter Tryz.func20, Tryz.ntmps20
      go_wp2_with (go_at_call 52; refine (KB.out _ B).mono ?_; rintro e w1 ⟨rfl, hb1⟩; refine Hid.out ?_)
      have Z1 := Z.mono hb1; have X1 := X.mono hb1; have Y1 := Y.mono hb1
      have z0 := Z1.c0; have z1 := Z1.c1; have z2 := Z1.f0; have z3 := Z1.f1; have z4 := Z1.lt; have x0 := X1.c0; have y0 := Y1.c0
      have q := box2 Z1.c0 Z1.c1 (.slice none 0 0) (.string ⟨#[]⟩)
      have HBB := Lib.hid (below2 (p := w.heap.size + 1 + 1) (Below.chain B hb1) (by omega) (.slice none 0 0) (.string ⟨#[]⟩))
      clear hb1 X Y Z B X1 Y1 Z1
      refine Lib.hid ?_
      go_wp2
      obtain ⟨q1, q2⟩ := q
      refine bodyPost_ret (by simp [results, Tryz.results20, go_sem, q1, q2]; rfl) rfl ?_
      exact ⟨none, 0, rfl, RowB.nil _ _, HBB.out⟩
theorem set_good {k : Nat} {m : List ByteArray} (h : ∀ s ∈ m, Good k s) (j : Nat) {z : ByteArray} (hz : Good k z) : ∀ s ∈ m.set j z, Good k s := fun s hs => by
  rcases List.mem_or_eq_of_mem_set hs with h1 | rfl
  · exact h s h1
  · exact hz
theorem map_good {i j : Nat} {m : List ByteArray} (h : ∀ s ∈ m, Good i s) {x : ByteArray} (hx : Good j x) : ∀ s ∈ m.map (fun s => mulT s x), Good (i + j) s := fun s hs => by
  obtain ⟨t, ht, rfl⟩ := List.mem_map.1 hs
  exact (h t ht).mul hx
def subO (l : List ByteArray) (k : ByteArray) (j : Nat) (l2 : List ByteArray) (k2 : ByteArray) : LOut :=
  exprO (List.zipWith addT (l.set j z0) (l2.map fun s => mulT s (l.getD j ⟨#[]⟩))) (addT k (mulT k2 (l.getD j ⟨#[]⟩)))
def subAll (l : List ByteArray) (k : ByteArray) (i : Int) (l2 : List ByteArray) (k2 : ByteArray) : LOut :=
  if bothE (linE l k) (linE l2 k2) = 0 then (if l.length = l2.length then (if i < 0 ∨ (l.length : Int) ≤ i then .bad 6 else subO l k i.toNat l2 k2) else .bad 22) else .bad (bothE (linE l k) (linE l2 k2))
set_option maxHeartbeats 4000000 in
theorem linSub (l : List ByteArray) (k : ByteArray) (ao : Option Addr) (c : Nat) (i : Int) (l2 : List ByteArray) (k2 : ByteArray) (ao2 : Option Addr) (c2 : Nat) (w : World)
    (hr : SRow w ao c l) (hz : ∀ s ∈ l ++ [k], s.size ≤ 1200000) (hn : l.length ≤ 1200000) (hr2 : SRow w ao2 c2 l2) (hz2 : ∀ s ∈ l2 ++ [k2], s.size ≤ 1200000) (hn2 : l2.length ≤ 1200000) (htab : Lib.TabIs Tryz.prog w "internal/strconv.uint64pow10" .u64 Lib.pow10Tab) :
    Calls Tryz.prog 34 #[.agg #[.slice ao l.length c, .string k], .int .i64 i, .agg #[.slice ao2 l2.length c2, .string k2]] w (LinRet w.heap.size (subAll l k i l2 k2) w) := by
  have hT := Lib.tabBelow_of_tabIs htab
  have CB := fun (W : World) (hW : Below w.heap.size w W) => linCheckBoth l k ao c l2 k2 ao2 c2 W (hr.mono hW) hz hn (hr2.mono hW) hz2 hn2 (hT.on hW).here
  have CA := fun (W : World) (hW : Below w.heap.size w W) => numbersN l k ao c W (hr.mono hW) hn
  have CA2 := fun (W : World) (hW : Below w.heap.size w W) => numbersN l2 k2 ao2 c2 W (hr2.mono hW) hn2
  have hcs := bothE_cases (linE_cases l k) (linE_cases l2 k2)
  obtain ⟨X, Y, Z, B⟩ := entry3 w (.slice ao l.length c) (.string k) (.slice ao2 l2.length c2) (.string k2) (.slice none 0 0) (.string ⟨#[]⟩) 27
  unfold subAll
  by_cases h0 : bothE (linE l k) (linE l2 k2) = 0
  · rw [if_pos h0]
    obtain ⟨z1, z2⟩ := bothE_zero h0
    obtain ⟨g1, g2⟩ := linE_zero z1
    obtain ⟨g3, g4⟩ := linE_zero z2
    rw [h0] at CB
    by_cases hlen : l.length = l2.length
    · rw [if_pos hlen]
      by_cases hi : i < 0 ∨ (l.length : Int) ≤ i
      · rw [if_pos hi]
        clear hr hz hn hr2 hz2 hn2 htab hT CA CA2 hcs h0 z1 z2 g2 g4 g1 g3
        generalize l2.length = n2 at *
        generalize l.length = n at *
        subst hlen
        rcases hi with hi | hi
        · have hd : decide (i < 0) = true := by simpa using hi
          have KB := Lib.hid CB; clear CB
          go_enter Tryz.func34, Tryz.ntmps34
          go_wp2_with (go_at_call 52; refine (KB.out _ B).mono ?_; rintro e w1 ⟨rfl, hb1⟩; refine Hid.out ?_)
          have Z1 := Z.mono hb1; have X1 := X.mono hb1; have Y1 := Y.mono hb1
          have z0 := Z1.c0; have z1 := Z1.c1; have z2 := Z1.f0; have z3 := Z1.f1; have z4 := Z1.lt; have x0 := X1.c0; have y0 := Y1.c0
          have q := box2 Z1.c0 Z1.c1 (.slice none 0 0) (.string ⟨#[]⟩)
          have HBB := Lib.hid (below2 (p := w.heap.size + 1 + 1) (Below.chain B hb1) (by omega) (.slice none 0 0) (.string ⟨#[]⟩))
          clear hb1 X Y Z B X1 Y1 Z1
          refine Lib.hid ?_
          go_wp2
          obtain ⟨q1, q2⟩ := q
          refine bodyPost_ret (by simp [results, Tryz.results34, go_sem, q1, q2]; rfl) rfl ?_
          exact ⟨none, 0, rfl, RowB.nil _ _, HBB.out⟩
        · by_cases hi0 : i < 0
          · omega
          have hd : decide (i < 0) = false := by simpa using hi0
          have hd2 : decide ((n : Int) ≤ i) = true := by simpa using hi
          have KB := Lib.hid CB; clear CB
          go_enter Tryz.func34, Tryz.ntmps34
          go_wp2_with (go_at_call 52; refine (KB.out _ B).mono ?_; rintro e w1 ⟨rfl, hb1⟩; refine Hid.out ?_)
          have Z1 := Z.mono hb1; have X1 := X.mono hb1; have Y1 := Y.mono hb1
          have z0 := Z1.c0; have z1 := Z1.c1; have z2 := Z1.f0; have z3 := Z1.f1; have z4 := Z1.lt; have x0 := X1.c0; have y0 := Y1.c0
          have q := box2 Z1.c0 Z1.c1 (.slice none 0 0) (.string ⟨#[]⟩)
          have HBB := Lib.hid (below2 (p := w.heap.size + 1 + 1) (Below.chain B hb1) (by omega) (.slice none 0 0) (.string ⟨#[]⟩))
          clear hb1 X Y Z B X1 Y1 Z1
          refine Lib.hid ?_
          go_wp2
          obtain ⟨q1, q2⟩ := q
          refine bodyPost_ret (by simp [results, Tryz.results34, go_sem, q1, q2]; rfl) rfl ?_
          exact ⟨none, 0, rfl, RowB.nil _ _, HBB.out⟩
      rw [if_neg hi]
      obtain ⟨j, rfl⟩ := Int.eq_ofNat_of_zero_le (show 0 ≤ i by omega)
      rw [Int.toNat_natCast]
      have hj : j < l.length := by omega
      clear hi
      obtain ⟨bl, ol, rfl, hbl, hcl⟩ := hr.get j hj
      have hcell : ∀ W, Below w.heap.size w W → W.cell? ⟨bl, ol + j, none⟩ = some (.string (l.getD j ⟨#[]⟩)) := fun W hW => by
        rw [getD_get l hj]; exact (hW.cell (p := ⟨bl, ol + j, none⟩) hbl).trans hcl
      have hgj : Good 100 (l.getD j ⟨#[]⟩) := by rw [getD_get l hj]; exact g2 _ (by simp)
      have hm1 : (l ++ [k]).set j z0 = l.set j z0 ++ [k] := List.set_append_left _ _ hj
      have gm1 : ∀ s ∈ (l ++ [k]).set j z0, Good 100 s := set_good g2 j (good0 (by decide))
      have gm2 := map_good g4 hgj
      have CM : ∀ (W : World) (gb cb : Nat), Below w.heap.size w W → SRow W (some ⟨gb, 0, none⟩) cb (l2 ++ [k2]) → Calls Tryz.prog 68 #[.slice (some ⟨gb, 0, none⟩) (l2 ++ [k2]).length cb, .string (l.getD j ⟨#[]⟩)] W fun e w' => ∃ g, e = .returned (.slice (some ⟨g, 0, none⟩) (l.length + 1) (l.length + 1)) ∧ SRow w' (some ⟨g, 0, none⟩) (l.length + 1) ((l2 ++ [k2]).map fun s => mulT s (l.getD j ⟨#[]⟩)) ∧ W.heap.size ≤ g ∧ Below W.heap.size W w' := fun W gb cb hW r =>
        (multiple_any (l2 ++ [k2]) (l.getD j ⟨#[]⟩) (some ⟨gb, 0, none⟩) cb 100 100 W r (by simp; omega) g4 hgj (by decide) (hT.on hW).here).mono fun e w' ⟨g, h1, h2, h3, h4⟩ => ⟨g, by rw [h1]; simp [hlen], h2.row (by simp [hlen]) (by omega), h3, h4⟩
      have CS : ∀ (W : World) (ga ca gb : Nat), Below w.heap.size w W → SRow W (some ⟨ga, 0, none⟩) ca ((l ++ [k]).set j z0) → SRow W (some ⟨gb, 0, none⟩) (l.length + 1) ((l2 ++ [k2]).map fun s => mulT s (l.getD j ⟨#[]⟩)) → Calls Tryz.prog 53 #[.slice (some ⟨ga, 0, none⟩) (l ++ [k]).length ca, .slice (some ⟨gb, 0, none⟩) (l.length + 1) (l.length + 1)] W fun e w' => ∃ g, e = .returned (.slice (some ⟨g, 0, none⟩) (l.length + 1) (l.length + 1)) ∧ SRow w' (some ⟨g, 0, none⟩) (l.length + 1) (List.zipWith addT (l.set j z0) (l2.map fun s => mulT s (l.getD j ⟨#[]⟩)) ++ [addT k (mulT k2 (l.getD j ⟨#[]⟩))]) ∧ W.heap.size ≤ g ∧ Below W.heap.size W w' := fun W ga ca gb hW r1 r2 => by
        have := sum_any ((l ++ [k]).set j z0) ((l2 ++ [k2]).map fun s => mulT s (l.getD j ⟨#[]⟩)) (some ⟨ga, 0, none⟩) ca gb 0 (l.length + 1) 100 200 W r1 r2 (by simp; omega) (by simp [hlen]) gm1 gm2 (by decide) (hT.on hW).here
        rw [show ((l ++ [k]).set j z0).length = (l ++ [k]).length by simp, show ((l2 ++ [k2]).map fun s => mulT s (l.getD j ⟨#[]⟩)).length = l.length + 1 by simp [hlen]] at this
        refine this.mono fun e w' ⟨g, h1, h2, h3, h4⟩ => ?_
        rw [hm1, List.map_append, List.map_cons, List.map_nil, zip_snoc _ _ _ _ _ (by simp [hlen])] at h2
        exact ⟨g, by rw [h1]; simp, h2.row (by simp [hlen]) (by omega), h3, h4⟩
      have CE : ∀ (W : World) (g : Nat), Below w.heap.size w W → w.heap.size + 1 + 1 < g → SRow W (some ⟨g, 0, none⟩) (l.length + 1) (List.zipWith addT (l.set j z0) (l2.map fun s => mulT s (l.getD j ⟨#[]⟩)) ++ [addT k (mulT k2 (l.getD j ⟨#[]⟩))]) → Calls Tryz.prog 46 #[.slice (some ⟨g, 0, none⟩) (l.length + 1) (l.length + 1)] W (LinRet (w.heap.size + 1 + 1 + 1) (subO l k j l2 k2) W) := fun W g hW hg r => by
        have hl : (List.zipWith addT (l.set j z0) (l2.map fun s => mulT s (l.getD j ⟨#[]⟩))).length = l.length := by simp [hlen]
        have gg : ∀ s ∈ List.zipWith addT (l.set j z0) (l2.map fun s => mulT s (l.getD j ⟨#[]⟩)) ++ [addT k (mulT k2 (l.getD j ⟨#[]⟩))], Good 301 s := by
          have := zip_good gm1 gm2
          rwa [hm1, List.map_append, List.map_cons, List.map_nil, zip_snoc _ _ _ _ _ (by simp [hlen])] at this
        have := expression_any (List.zipWith addT (l.set j z0) (l2.map fun s => mulT s (l.getD j ⟨#[]⟩))) (addT k (mulT k2 (l.getD j ⟨#[]⟩))) (some ⟨g, 0, none⟩) (l.length + 1) W r (good_sz gg (by decide)) (by omega) (w.heap.size + 1 + 1 + 1) (fun a ha => by cases ha; exact hg)
        rwa [hl] at this
      have hj1 : j < (l ++ [k]).length := by simp; omega
      clear hr hz hn hr2 hz2 hn2 htab hT hcs h0 z1 z2 g2 g4 gm1 gm2 hm1 hgj hcl
      have HBLW := Lib.hid hbl; clear hbl
      generalize subO l k j l2 k2 = O at *
      generalize List.zipWith addT (l.set j z0) (l2.map fun s => mulT s (l.getD j ⟨#[]⟩)) ++ [addT k (mulT k2 (l.getD j ⟨#[]⟩))] = m3 at *
      generalize l.getD j ⟨#[]⟩ = lj at *
      have e1 : (l ++ [k]).length = l.length + 1 := by simp
      have e2 : (l2 ++ [k2]).length = l.length + 1 := by simp [hlen]
      unfold NumRet at CA CA2
      rw [e1] at CA CS
      rw [e2] at CA2 CM
      generalize ((l2 ++ [k2]).map fun s => mulT s lj) = m4 at *
      generalize l ++ [k] = m1 at *
      generalize l2 ++ [k2] = m2 at *
      have E1 := Lib.hid e1; clear e1 e2 g3
      generalize l2.length = n2 at *
      generalize l.length = n at *
      subst hlen
      have KB := Lib.hid CB; have KA := Lib.hid CA; have KA2 := Lib.hid CA2; have KM := Lib.hid CM; have KS := Lib.hid CS; have KE := Lib.hid CE; have KL := Lib.hid hcell; have HJ1 := Lib.hid hj1; clear CB CA CA2 CS CE CM hcell hj1
      have hd : decide ((j : Int) < 0) = false := by simp
      have hd2 : decide (n ≤ j) = false := by simpa using hj
      go_enter Tryz.func34, Tryz.ntmps34
      go_wp2_with (go_at_call 52; refine (KB.out _ B).mono ?_; rintro e w1 ⟨rfl, hb1⟩; refine Hid.out ?_)
      have X1 := X.mono hb1; have Y1 := Y.mono hb1; have Z1 := Z.mono hb1
      have hB1 := Below.chain B hb1
      have x0 := X1.c0; have x1 := X1.c1; have y0 := Y1.c0; have y1 := Y1.c1
      clear hb1 X Y Z B
      refine Lib.hid ?_
      go_wp2_with (go_at_call 54; refine (KA.out _ hB1).mono ?_; rintro e w2 ⟨ga, ca, rfl, ba, -, ha1, ha2, ha3, hb2⟩; refine Hid.out ?_)
      have sa : SBlk 22 (w2.setCell ⟨ga, j, none⟩ (.string ⟨#[48]⟩)) ga (m1.set j z0) := ba.set j HJ1.out z0
      have cs := ba.cell j HJ1.out
      have fs := ba.frozen j
      generalize m1[j]'HJ1.out = old at cs
      have hbW : Below w1.heap.size w1 (w2.setCell ⟨ga, j, none⟩ (.string ⟨#[48]⟩)) := hb2.setCell ha3 _
      have ra := sa.row (c := ca) (by rw [List.length_set, E1.out]; exact ha1) ha2
      have hj3 : (j : Int) < (n : Int) + 1 := by omega
      have KW := Lib.hid hbW; have RA := Lib.hid ra
      clear hbW ra sa ba hb2 x0 x1 y0 y1
      refine Lib.hid ?_
      go_wp2_with fail
      have hbW := KW.out; have ra := RA.out
      clear KW RA cs fs
      generalize w2.setCell ⟨ga, j, none⟩ (.string ⟨#[48]⟩) = W2 at *
      have X2 := X1.mono hbW; have Y2 := Y1.mono hbW; have Z2 := Z1.mono hbW; have hB2 := Below.chain hB1 hbW
      have K : ∀ W : World, Below W2.heap.size W2 W → (((W.cell? ⟨w.heap.size, 0, none⟩ = some (.slice (some ⟨bl, ol, none⟩) n c) ∧ W.cell? ⟨w.heap.size, 1, none⟩ = some (.string k)) ∧ (W.cell? ⟨w.heap.size + 1, 0, none⟩ = some (.slice ao2 n c2) ∧ W.cell? ⟨w.heap.size + 1, 1, none⟩ = some (.string k2))) ∧ W.cell? ⟨bl, ol + j, none⟩ = some (.string lj)) ∧ Below w.heap.size w W ∧ Bx2 W (w.heap.size + 1 + 1) (.slice none 0 0) (.string ⟨#[]⟩) ∧ SRow W (some ⟨ga, 0, none⟩) ca (m1.set j z0) := fun W hW =>
        ⟨⟨⟨⟨(X2.mono hW).c0, (X2.mono hW).c1⟩, ⟨(Y2.mono hW).c0, (Y2.mono hW).c1⟩⟩, KL.out _ (Below.chain hB2 hW)⟩, Below.chain hB2 hW, Z2.mono hW, ra.mono hW⟩
      have KK := Lib.hid K; clear K X1 Y1 Z1 hB1 X2 Y2 Z2 hB2 hbW ra
      have NW : Below W2.heap.size W2 W2.drew := (Below.refl _ _).drew
      have HP := Lib.hid ((KK.out _ NW).2.2.1.lt)
      have hj2 : (j : Int) < (n : Int) := by omega
      have hblw := HBLW.out
      go_region_held3 (fun w' => ((w'.cell? ⟨w.heap.size, 0, none⟩ = some (.slice (some ⟨bl, ol, none⟩) n c) ∧ w'.cell? ⟨w.heap.size, 1, none⟩ = some (.string k)) ∧ (w'.cell? ⟨w.heap.size + 1, 0, none⟩ = some (.slice ao2 n c2) ∧ w'.cell? ⟨w.heap.size + 1, 1, none⟩ = some (.string k2))) ∧ w'.cell? ⟨bl, ol + j, none⟩ = some (.string lj))
        (first | (with_reducible exact (KK.out _ NW).1) | (with_reducible exact ⟨keep4 (keep4 (KK.out _ NW).1.1 (by omega) (by omega)) (by omega) (by omega), (World.cell?_setCell_far _ _ _ _ (by simp; omega)).trans ((World.cell?_setCell_far _ _ _ _ (by simp; omega)).trans (KK.out _ NW).1.2)⟩))
        (first
        | (go_at_call 54; (with_reducible refine (KA2.out _ (KK.out _ NW).2.1).mono ?_); rintro e wb ⟨gb, cb, rfl, -, rb, -, -, -, hb⟩; have NW := Below.chain NW hb)
        | (go_at_call 68; (with_reducible refine (KM.out _ gb cb (KK.out _ NW).2.1 rb).mono ?_); rintro e wm ⟨gm, rfl, rm, -, hm⟩; have NW := Below.chain NW hm)
        | (go_at_call 53; (with_reducible refine (KS.out _ ga ca gm (KK.out _ NW).2.1 (KK.out _ NW).2.2.2 rm).mono ?_); rintro e wz ⟨gz, rfl, rz, hgz, hz⟩; have hgz := Nat.lt_of_lt_of_le (KK.out _ NW).2.2.1.lt hgz; have NW := Below.chain NW hz)
        | (go_at_call 46; (with_reducible refine (KE.out _ gz (KK.out _ NW).2.1 hgz rz).mono ?_); rintro e we ⟨ae, ce, rfl, re, he⟩; have NW := Below.chain NW he; have z0 := (KK.out _ NW).2.2.1.c0; have z1 := (KK.out _ NW).2.2.1.c1; have z2 := (KK.out _ NW).2.2.1.f0; have z3 := (KK.out _ NW).2.2.1.f1; have z4 := (KK.out _ NW).2.2.1.lt))
      all_goals
        have q := (KK.out _ NW).2.2.1
        have HR := Lib.hid ((re.set (p := w.heap.size + 1 + 1) (by omega) 0 (.slice ae O.l.length ce)).set (p := w.heap.size + 1 + 1) (by omega) 1 (.string O.k))
        have HBB := Lib.hid (below2 (p := w.heap.size + 1 + 1) (KK.out _ NW).2.1 (by omega) (.slice ae O.l.length ce) (.string O.k))
        obtain ⟨q1, q2⟩ := box2 q.c0 q.c1 (.slice ae O.l.length ce) (.string O.k)
        clear q
        go_wp2
        refine bodyPost_ret (v := .tuple #[.agg #[.slice ae O.l.length ce, .string O.k], .int .i64 (O.e : Nat)]) (by simp [results, Tryz.results34, go_sem, q1, q2]) rfl ?_
        exact ⟨ae, ce, rfl, HR.out.lower (by omega), HBB.out⟩
    · rw [if_neg hlen]
      clear hcs h0 z1 z2 g2 g4 g1 g3 hr hz hn hr2 hz2 hn2 htab hT CA CA2
      generalize l.length = n at *
      generalize l2.length = n2 at *
      have KB := Lib.hid CB; clear CB
      go_enter Tryz.func34, Tryz.ntmps34
      go_wp2_with (go_at_call 52; refine (KB.out _ B).mono ?_; rintro e w1 ⟨rfl, hb1⟩; refine Hid.out ?_)
      have Z1 := Z.mono hb1; have X1 := X.mono hb1; have Y1 := Y.mono hb1
      have z0 := Z1.c0; have z1 := Z1.c1; have z2 := Z1.f0; have z3 := Z1.f1; have z4 := Z1.lt; have x0 := X1.c0; have y0 := Y1.c0
      have q := box2 Z1.c0 Z1.c1 (.slice none 0 0) (.string ⟨#[]⟩)
      have HBB := Lib.hid (below2 (p := w.heap.size + 1 + 1) (Below.chain B hb1) (by omega) (.slice none 0 0) (.string ⟨#[]⟩))
      clear hb1 X Y Z B X1 Y1 Z1
      refine Lib.hid ?_
      go_wp2
      obtain ⟨q1, q2⟩ := q
      refine bodyPost_ret (by simp [results, Tryz.results34, go_sem, q1, q2]; rfl) rfl ?_
      exact ⟨none, 0, rfl, RowB.nil _ _, HBB.out⟩
  · rw [if_neg h0]
    rcases hcs with h | h | h | h
    · exact absurd h h0
    all_goals
      rw [h] at CB ⊢
      clear h0 h hr hz hn hr2 hz2 hn2 htab hT CA CA2
      generalize l.length = n at *
      generalize l2.length = n2 at *
      have KB := Lib.hid CB; clear CB
      go_enter Tryz.func34, Tryz.ntmps34
      go_wp2_with (go_at_call 52; refine (KB.out _ B).mono ?_; rintro e w1 ⟨rfl, hb1⟩; refine Hid.out ?_)
      have Z1 := Z.mono hb1; have X1 := X.mono hb1; have Y1 := Y.mono hb1
      have z0 := Z1.c0; have z1 := Z1.c1; have z2 := Z1.f0; have z3 := Z1.f1; have z4 := Z1.lt; have x0 := X1.c0; have y0 := Y1.c0
      have q := box2 Z1.c0 Z1.c1 (.slice none 0 0) (.string ⟨#[]⟩)
      have HBB := Lib.hid (below2 (p := w.heap.size + 1 + 1) (Below.chain B hb1) (by omega) (.slice none 0 0) (.string ⟨#[]⟩))
      clear hb1 X Y Z B X1 Y1 Z1
      refine Lib.hid ?_
      go_wp2
      obtain ⟨q1, q2⟩ := q
      refine bodyPost_ret (by simp [results, Tryz.results34, go_sem, q1, q2]; rfl) rfl ?_
      exact ⟨none, 0, rfl, RowB.nil _ _, HBB.out⟩
theorem lcmI_nat (a b : Nat) : lcmI (a : Int) (b : Int) = (Nat.lcm a b : Nat) := by
  unfold lcmI gcdI
  rw [show Int.gcd (a : Int) (b : Int) = Nat.gcd a b from rfl, Int.fdiv_eq_ediv_of_nonneg _ (Int.natCast_nonneg _), ← Int.natCast_ediv, ← Int.natCast_mul, Int.natAbs_natCast]
  unfold Nat.lcm
  rw [Nat.div_mul_right_comm (Nat.gcd_dvd_left a b)]
def lcmD (m : List ByteArray) : Nat := m.foldl (fun d s => Nat.lcm d (rv s).den) 1
theorem lcmD_take (m : List ByteArray) (j : Nat) (h : j < m.length) : lcmD (m.take (j + 1)) = Nat.lcm (lcmD (m.take j)) (rv m[j]).den := by
  unfold lcmD; rw [← List.take_append_getElem h, List.foldl_append]; rfl
theorem lcm_le (a b : Nat) : Nat.lcm a b ≤ a * b := by unfold Nat.lcm; exact Nat.div_le_self _ _
theorem lcmD_lt (m : List ByteArray) (hg : ∀ s ∈ m, Good 100 s) (j : Nat) (hj : j ≤ m.length) : lcmD (m.take j) < 10 ^ (100 * j + 1) := by
  induction j with
  | zero => rw [List.take_zero]; unfold lcmD; simp
  | succ j ih =>
    rw [lcmD_take m j (by omega)]
    have h1 := ih (by omega)
    have h2 : (rv m[j]).den < 10 ^ 100 := by
      have := (hg _ (List.getElem_mem (show j < m.length by omega))).rz.den
      unfold Sz at this; rwa [Int.natAbs_natCast] at this
    refine Nat.lt_of_le_of_lt (lcm_le _ _) ?_
    rw [show 100 * (j + 1) + 1 = (100 * j + 1) + 100 by omega, Nat.pow_add]
    exact Nat.mul_lt_mul'' h1 h2
def itN (d : Nat) : ByteArray := str (Lib.itoa (d : Int))
theorem itN_tq (d : Nat) : itN d = tq ((d : Int) : Rat) := by unfold itN tq; rw [ratL_int]
theorem good_nat {k d : Nat} (h : d < 10 ^ k) (h0 : 0 < k) : Good k (itN d) := by
  rw [itN_tq]
  refine Good.tq ⟨?_, ?_⟩
  · rw [Rat.num_intCast]; unfold Sz; rwa [Int.natAbs_natCast]
  · rw [Rat.den_intCast]; unfold Sz; exact Nat.one_lt_pow (by omega) (by decide)
theorem lcmD_good (m : List ByteArray) (hg : ∀ s ∈ m, Good 100 s) : Good (100 * m.length + 1) (itN (lcmD m)) := by
  have := lcmD_lt m hg m.length (Nat.le_refl _)
  rw [List.take_length] at this
  exact good_nat this (by omega)
theorem str_nat {k d : Nat} (h : d < 10 ^ k) (h0 : 0 < k) (hk : k ≤ 4096) : Str (itN d) (d : Int) := ⟨bytes_str _, by rw [Int.natAbs_natCast]; exact Nat.le_trans (decDigits_length_le _ k h0 h) hk⟩
theorem lcmN (d e : Nat) (i j : Nat) (hd : d < 10 ^ i) (he : e < 10 ^ j) (hi : 0 < i) (hj : 0 < j) (hk : i + j ≤ 4096) (w : World) (htab : Lib.TabIs Tryz.prog w "internal/strconv.uint64pow10" .u64 Lib.pow10Tab) :
    Calls Tryz.prog 86 #[.string (itN d), .string (itN e)] w (Bret (.tuple #[.string (itN (Nat.lcm d e)), .int .i64 0]) w) := by
  have h1 := str_nat hd hi (by omega)
  have h2 := str_nat he hj (by omega)
  have := bigLcmR (itN d) (itN e) w (by have := h1.size; omega) (by have := h2.size; omega) htab
  have hl : Nat.lcm d e < 10 ^ (i + j) := Nat.lt_of_le_of_lt (lcm_le _ _) (by rw [Nat.pow_add]; exact Nat.mul_lt_mul'' hd he)
  have e3 : opR lcmI (bytes (itN d)) (bytes (itN e)) = .tuple #[.string (itN (Nat.lcm d e)), .int .i64 0] := by
    unfold opR errBoth
    rw [h1.err, if_pos rfl, h2.err, if_pos rfl, h1.text, h2.text, valZ_itoa, valZ_itoa, lcmI_nat]
    exact resV_fits (by have := (str_nat hl (by omega) hk).len; omega)
  rwa [e3] at this
theorem denG {k : Nat} {s : ByteArray} (h : Good k s) (hk : k ≤ 4096) (w : World) (htab : Lib.TabIs Tryz.prog w "internal/strconv.uint64pow10" .u64 Lib.pow10Tab) :
    Calls Tryz.prog 85 #[.string s] w (Bret (.tuple #[.string (itN (rv s).den), .int .i64 0]) w) :=
  ratDenS s (rv s) w (h.rstr hk) (by have := h.size hk; omega) htab
set_option maxHeartbeats 2000000 in
theorem common_any (m : List ByteArray) (ao : Option Addr) (c : Nat) (w : World) (hr : SRow w ao c m) (hn : m.length ≤ 33) (hg : ∀ s ∈ m, Good 100 s) (htab : Lib.TabIs Tryz.prog w "internal/strconv.uint64pow10" .u64 Lib.pow10Tab) :
    Calls Tryz.prog 58 #[.slice ao m.length c] w (Bret (.string (itN (lcmD m))) w) := by
  have hT := Lib.tabBelow_of_tabIs htab
  have hget : ∀ W, Below w.heap.size w W → ∀ j (hj : j < m.length), ∃ b off, ao = some ⟨b, off, none⟩ ∧ b < W.heap.size ∧ W.cell? ⟨b, off + j, none⟩ = some (.string (m[j]'hj)) := fun W hW => (hr.mono hW).get
  have CD : ∀ (W : World) (j : Nat) (hj : j < m.length), Below w.heap.size w W → Calls Tryz.prog 85 #[.string (m[j]'hj)] W (Bret (.tuple #[.string (itN (rv (m[j]'hj)).den), .int .i64 0]) W) := fun W j hj hW => denG (hg _ (List.getElem_mem hj)) (by decide) W (hT.on hW).here
  have CL : ∀ (W : World) (j : Nat) (hj : j < m.length), Below w.heap.size w W → Calls Tryz.prog 86 #[.string (itN (lcmD (m.take j))), .string (itN (rv (m[j]'hj)).den)] W (Bret (.tuple #[.string (itN (lcmD (m.take (j + 1)))), .int .i64 0]) W) := fun W j hj hW => by
    rw [lcmD_take m j hj]
    have h2 : (rv m[j]).den < 10 ^ 100 := by
      have := (hg _ (List.getElem_mem hj)).rz.den
      unfold Sz at this; rwa [Int.natAbs_natCast] at this
    exact lcmN _ _ (100 * j + 1) 100 (lcmD_lt m hg j (by omega)) h2 (by omega) (by decide) (by omega) W (hT.on hW).here
  have hend : itN (lcmD (m.take m.length)) = itN (lcmD m) := by rw [List.take_length]
  have h0 : itN (lcmD (m.take 0)) = ⟨#[49]⟩ := by rw [List.take_zero]; exact lit_str s1
  have KG := Lib.hid hget; have KD := Lib.hid CD; have KL := Lib.hid CL; clear hget CD CL hr hg hT htab
  generalize itN (lcmD m) = res at *
  have HEND := Lib.hid hend; have H0 := Lib.hid h0; clear hend h0
  generalize hlen : m.length = n at hn ⊢
  have HLEN := Lib.hid hlen; clear hlen
  go_enter Tryz.func58, Tryz.ntmps58
  go_wp2_with fail
  go_loopw [3, 10] (fun cv iv wr => ∃ j : Nat, j ≤ n ∧ iv = .int .i64 j ∧ cv = .string (itN (lcmD (m.take j))) ∧ Below w.heap.size w wr) (fun _ iv _ => n - (intOf iv).toNat)
  case atStart => exact ⟨0, Nat.zero_le _, rfl, by rw [H0.out], Below.refl _ _⟩
  case round =>
    obtain ⟨j, hj, rfl, rfl, hbw⟩ := hrel
    have HB := Lib.hid hbw; clear hbw
    by_cases hlt : j < n
    · have hlt' : j < m.length := by rw [HLEN.out]; exact hlt
      obtain ⟨b, off, rfl, hbl, ck⟩ := KG.out wr HB.out j hlt'
      have C1 := KD.out wr j hlt' HB.out
      have C2 := fun W hW => KL.out W j hlt' hW
      generalize itN (rv (m[j]'hlt')).den = sd at *
      generalize itN (lcmD (m.take j)) = sa at *
      generalize hsb : itN (lcmD (m.take (j + 1))) = sb at *
      have HSB := Lib.hid hsb; clear hsb
      generalize m[j]'hlt' = sk at *
      have K1 := Lib.hid C1; have K2 := Lib.hid C2; clear C1 C2
      go_wp2_with (go_at_call 85; refine K1.out.mono ?_; rintro e w1 ⟨rfl, hb1⟩; refine Hid.out ?_)
      have hB1 := Below.chain HB.out hb1; clear hb1 ck
      refine Lib.hid ?_
      go_wp2_with (go_at_call 86; refine (K2.out _ hB1).mono ?_; rintro e w2 ⟨rfl, hb2⟩; refine Hid.out ?_)
      have HB2 := Lib.hid (Below.chain hB1 hb2); clear hb2 hB1
      refine Lib.hid ?_
      go_wp2
      exact ⟨⟨j + 1, by omega, by go_num, by rw [HSB.out], HB2.out⟩, by simp [intOf]; omega⟩
    · have hjn : j = n := by omega
      subst hjn
      have he := HEND.out
      rw [HLEN.out] at he
      rw [he]
      clear he
      go_wp2
      refine bodyPost_ret (v := .string res) (by simp [results, Tryz.results58, go_sem]) rfl ?_
      exact ⟨rfl, HB.out⟩
end Go.Proofs.YtjobmkdaaionlaaGreatDoor
