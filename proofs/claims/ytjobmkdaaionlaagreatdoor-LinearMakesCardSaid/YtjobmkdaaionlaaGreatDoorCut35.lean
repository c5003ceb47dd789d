import Derived.Test.YtjobmkdaaionlaaGreatDoorCut32
import Derived.Test.YtjobmkdaaionlaaGreatDoorCut33
import Derived.Laws.OwnMore

set_option linter.unusedVariables false
/-
  linear: Constant.
-/
set_option linter.unusedSimpArgs false
namespace Go.Proofs.YtjobmkdaaionlaaGreatDoor
open Go Go.Proofs Go.RowKit

/-- A string that is appended to a full block, in a list of operations. -/
theorem wpList_append_one {ops : Array Oper} {rest : List Oper} {o : Oper} {a : Act} {W : World} {Q : Exit → Act → World → Prop}
    (hg : o.guard = none) (s x : Operand) (hop : o.op = Op.call { callee := Callee.builtin Builtin.append, args := #[s, x], argTypes := #[25, 25] })
    (g n : Nat) (l : List ByteArray) (k : ByteArray) (hn : l.length = n) (hs : a.eval s = .slice (some ⟨g, 0, none⟩) n n) (hX : XBlk 22 W g l) (hl : n ≤ 1000)
    (ad : Nat) (hx : a.eval x = .slice (some ⟨ad, 0, none⟩) 1 1) (hc : W.cell? ⟨ad, 0, none⟩ = some (.string k))
    (hK : ∀ (g9 cap : Nat) (w9 : World), SBlk 22 w9 g9 (l ++ [k]) → n + 1 ≤ cap → cap ≤ 9223372036854775807 → W.heap.size ≤ g9 → Below W.heap.size W w9 → wpList Tryz.prog ops Q rest (a.put o.dst (.slice (some ⟨g9, 0, none⟩) (n + 1) cap)) w9) :
    wpList Tryz.prog ops Q (o :: rest) a W := by
  obtain ⟨i0, hi, hz0, hz1, hz2⟩ := info_parts infoRat
  subst hn
  refine wpList_append_grows W hg s x 25 hop 22 i0 (.string ⟨#[]⟩) 1 16 Tryz.underlying25 hi hz0 hz1 hz2 rfl (by decide) (some ⟨g, 0, none⟩) l.length l.length (strCells l) hs (fun h => by cases h) (by rw [strCells_length, Nat.mul_one]) ?_ ⟨ad, 0, none⟩ 1 1 [.string k] hx rfl ?_ (by intro u hu; simp at hu; subst hu; rfl) (by omega) (by unfold maxLen; omega) (by omega) ?_
  · intro b hb j u hu
    cases hb
    have hj : j < l.length := by have := (List.getElem?_eq_some_iff.1 hu).1; rwa [strCells_length] at this
    rw [addr_zero, hX.cell j hj, ← hu]
    unfold strCells
    rw [List.getElem?_map, List.getElem?_eq_getElem hj]; rfl
  · intro j u hu
    match j, hu with
    | 0, hu => simp at hu; subst hu; rw [addr_zero]; exact hc
  · intro v' w' hown hgrow
    rw [show strCells l ++ [Value.string k] = strCells (l ++ [k]) from (strCells_append l [k]).symm] at hown
    obtain ⟨g9, cap, rfl⟩ := ownsRow_succ hown
    obtain ⟨q1, -, q3, q4, q5⟩ := sblk_of_owns hown
    exact hK g9 cap w' q1 q3 q4 q5 (below_of_grown hgrow)

/-- The outcome of Constant. -/
def constO (n : Int) (c : ByteArray) : LOut :=
  if sizeB n = true then (if numE (bytes c) = 0 then exprO (List.replicate n.toNat z0) c else .bad (numE (bytes c))) else .bad 2

set_option maxHeartbeats 4000000 in
theorem linConstant (n : Int) (x : ByteArray) (w : World) (hx : x.size ≤ 800000) (htab : Lib.TabIs Tryz.prog w "internal/strconv.uint64pow10" .u64 Lib.pow10Tab) :
    Calls Tryz.prog 14 #[.int .i64 n, .string x] w (LinRet w.heap.size (constO n x) w) := by
  have hT := Lib.tabBelow_of_tabIs htab
  have CS := fun (W : World) => isSize_any n W
  have CX := fun (W : World) (hW : Below w.heap.size w W) => checkNumber x W hx (hT.on hW).here
  have hcx := numE_cases (bytes x)
  have Z : Bx2 (w.alloc (Obj.cells #[.slice none 0 0, .string ⟨#[]⟩] 27)) w.heap.size (.slice none 0 0) (.string ⟨#[]⟩) := (entry1 w (.slice none 0 0) (.string ⟨#[]⟩) 27).1
  have B : Below w.heap.size w (w.alloc (Obj.cells #[.slice none 0 0, .string ⟨#[]⟩] 27)) := (Below.refl _ _).alloc (Nat.le_refl _) _
  unfold constO
  by_cases hs : sizeB n = true
  · rw [if_pos hs]
    rw [hs] at CS
    obtain ⟨m, rfl⟩ : ∃ m : Nat, n = (m : Int) := by
      unfold sizeB at hs; simp at hs; exact ⟨n.toNat, by omega⟩
    have hm : m ≤ 32 := by unfold sizeB at hs; simp at hs; omega
    by_cases h1 : numE (bytes x) = 0
    · rw [if_pos h1, Int.toNat_natCast]
      rw [h1] at CX
      have gx := good_of_numE h1
      have CZ := fun (W : World) => zeros_any m W (by omega)
      have CE : ∀ (W : World) (g cap : Nat), m + 1 ≤ cap → cap ≤ 9223372036854775807 → w.heap.size + 1 ≤ g → SBlk 22 W g (List.replicate m z0 ++ [x]) → Calls Tryz.prog 46 #[.slice (some ⟨g, 0, none⟩) (m + 1) cap] W (LinRet (w.heap.size + 1) (exprO (List.replicate m z0) x) W) := fun W g cap h1 h2 hg r => by
        have gg : ∀ s ∈ List.replicate m z0 ++ [x], s.size ≤ 800000 := by
          intro s hs
          rcases List.mem_append.1 hs with h | h
          · rw [List.eq_of_mem_replicate h]; decide
          · rw [List.mem_singleton.1 h]; exact hx
        have := expression_any (List.replicate m z0) x (some ⟨g, 0, none⟩) cap W (r.row (by simp; omega) h2) gg (by simp; omega) (w.heap.size + 1) (fun a ha => by cases ha; exact hg)
        rwa [List.length_replicate] at this
      clear hx htab hT hcx h1 gx
      generalize exprO (List.replicate m z0) x = O at *
      have KS := Lib.hid CS; have KX := Lib.hid CX; have KZ := Lib.hid CZ; have KE := Lib.hid CE; clear CS CX CZ CE hs
      go_enter Tryz.func14, Tryz.ntmps14
      go_wp2_with (go_at_call 44; refine (KS.out _).mono ?_; rintro e w1 ⟨rfl, rfl⟩; refine Hid.out ?_)
      refine Lib.hid ?_
      go_wp2_with (go_at_call 45; refine (KX.out _ B).mono ?_; rintro e w2 ⟨rfl, hb2⟩; refine Hid.out ?_)
      have Z2 := Z.mono hb2; have hB2 := Below.chain B hb2
      clear hb2 Z B
      refine Lib.hid ?_
      go_wp2_with (go_at_call 47; refine (KZ.out _).mono ?_; rintro e w3 ⟨g, rfl, hh, hg, hb3⟩; refine Hid.out ?_)
      have Z3 := Z2.mono hb3; have hB3 := Below.chain hB2 hb3
      have hgl := Nat.lt_of_lt_of_le Z2.lt hg
      refine Lib.hid ?_
      go_wp2_with (first | (at_builtin; refine wpList_append_one rfl (.tmp 18) (.tmp 20) rfl g m (List.replicate m z0) x (List.length_replicate ..) (by simp [Act.eval, Act.put]) (xblk_over hh _) (by omega) w3.heap.size (by simp [Act.eval, Act.put]) (allocN w3 _ _) ?_; intro g9 cap w9 s9 c9 c9' hg9 hb9; refine Hid.out ?_) | fail)
      have hb9' := Below.chain (nb (Below.refl _ _) _) hb9
      have Z9 := Z3.mono hb9'; have hB9 := Below.chain hB3 hb9'
      have hgl9 : w.heap.size + 1 ≤ g9 := by have := Z3.lt; simp at hg9; omega
      clear hb3 Z2 hB2 hh hg hgl Z3 hB3 hb9 hb9' hg9
      refine Lib.hid ?_
      go_wp2_with (go_at_call 46; refine (KE.out _ g9 cap c9 c9' hgl9 s9).mono ?_; rintro e w5 ⟨ae, ce, rfl, re, hb5⟩; refine Hid.out ?_)
      have Z5 := Z9.mono hb5; have hB5 := Below.chain hB9 hb5
      have z0 := Z5.c0; have z1 := Z5.c1; have z2 := Z5.f0; have z3 := Z5.f1; have z4 := Z5.lt
      have HR := Lib.hid ((re.set (p := w.heap.size) (by omega) 0 (.slice ae O.l.length ce)).set (p := w.heap.size) (by omega) 1 (.string O.k))
      have HBB := Lib.hid (below2 (p := w.heap.size) hB5 (by omega) (.slice ae O.l.length ce) (.string O.k))
      have q := box2 Z5.c0 Z5.c1 (.slice ae O.l.length ce) (.string O.k)
      clear hb5 Z5 hB5 re Z9 hB9
      refine Lib.hid ?_
      go_wp2
      obtain ⟨q1, q2⟩ := q
      refine bodyPost_ret (v := .tuple #[.agg #[.slice ae O.l.length ce, .string O.k], .int .i64 (O.e : Nat)]) (by simp [results, Tryz.results14, go_sem, q1, q2]) rfl ?_
      exact ⟨ae, ce, rfl, HR.out.lower (by omega), HBB.out⟩
    · rw [if_neg h1]
      clear hx htab hT
      rcases hcx with h | h | h
      · exact absurd h h1
      all_goals
        rw [h] at CX ⊢
        clear h h1
        have KS := Lib.hid CS; have KX := Lib.hid CX; clear CS CX hs
        go_enter Tryz.func14, Tryz.ntmps14
        go_wp2_with (go_at_call 44; refine (KS.out _).mono ?_; rintro e w1 ⟨rfl, rfl⟩; refine Hid.out ?_)
        refine Lib.hid ?_
        go_wp2_with (go_at_call 45; refine (KX.out _ B).mono ?_; rintro e w2 ⟨rfl, hb2⟩; refine Hid.out ?_)
        have Z2 := Z.mono hb2; have hB2 := Below.chain B hb2
        have z0 := Z2.c0; have z1 := Z2.c1; have z2 := Z2.f0; have z3 := Z2.f1; have z4 := Z2.lt
        have q := box2 Z2.c0 Z2.c1 (.slice none 0 0) (.string ⟨#[]⟩)
        have HBB := Lib.hid (below2 (p := w.heap.size) hB2 (by omega) (.slice none 0 0) (.string ⟨#[]⟩))
        clear hb2 Z B Z2 hB2
        refine Lib.hid ?_
        go_wp2
        obtain ⟨q1, q2⟩ := q
        refine bodyPost_ret (by simp [results, Tryz.results14, go_sem, q1, q2]; rfl) rfl ?_
        exact ⟨none, 0, rfl, RowB.nil _ _, HBB.out⟩
  · rw [if_neg hs]
    rw [Bool.not_eq_true] at hs
    rw [hs] at CS
    clear hx htab hT hcx CX
    have KS := Lib.hid CS; clear CS hs
    go_enter Tryz.func14, Tryz.ntmps14
    go_wp2_with (go_at_call 44; refine (KS.out _).mono ?_; rintro e w1 ⟨rfl, rfl⟩; refine Hid.out ?_)
    have z0 := Z.c0; have z1 := Z.c1; have z2 := Z.f0; have z3 := Z.f1; have z4 := Z.lt
    have q := box2 Z.c0 Z.c1 (.slice none 0 0) (.string ⟨#[]⟩)
    have HBB := Lib.hid (below2 (p := w.heap.size) B (by omega) (.slice none 0 0) (.string ⟨#[]⟩))
    have HB0 := Lib.hid B
    clear Z B
    refine Lib.hid ?_
    go_wp2
    obtain ⟨q1, q2⟩ := q
    refine bodyPost_ret (by simp [results, Tryz.results14, go_sem, q1, q2]; rfl) rfl ?_
    first | exact ⟨none, 0, rfl, RowB.nil _ _, HBB.out⟩ | exact ⟨none, 0, rfl, RowB.nil _ _, HB0.out⟩
end Go.Proofs.YtjobmkdaaionlaaGreatDoor

/-
  linear: Variable.
-/
set_option linter.unusedSimpArgs false
namespace Go.Proofs.YtjobmkdaaionlaaGreatDoor
open Go Go.Proofs Go.RowKit

def u1 : ByteArray := ⟨#[49]⟩
/-- The outcome of Variable. -/
def varO (n i : Int) : LOut :=
  if sizeB n = true then (if 0 ≤ i ∧ i < n then exprO ((List.replicate n.toNat z0).set i.toNat u1) z0 else .bad 6) else .bad 2
theorem rep_set (n i : Nat) (h : i < n) : (List.replicate (n + 1) z0).set i u1 = (List.replicate n z0).set i u1 ++ [z0] := by
  rw [← List.set_append_left _ _ (by simpa using h), List.replicate_succ']
theorem xblk_len {T : TypeId} {w : World} {g : Nat} {l : List ByteArray} (h : XBlk T w g l) {l' : List ByteArray} (e : l = l') : XBlk T w g l' := e ▸ h

theorem Bx2.set {W : World} {p : Nat} {u v : Value} (h : Bx2 W p u v) {g : Nat} (hne : p ≠ g) (o : Nat) (x : Value) : Bx2 (W.setCell ⟨g, o, none⟩ x) p u v :=
  ⟨(World.cell?_setCell_other W ⟨g, o, none⟩ ⟨p, 0, none⟩ x (by intro e; injection e with e; exact hne e.symm)).trans h.c0,
   (World.cell?_setCell_other W ⟨g, o, none⟩ ⟨p, 1, none⟩ x (by intro e; injection e with e; exact hne e.symm)).trans h.c1,
   (World.frozen?_setCell ..).trans h.f0, (World.frozen?_setCell ..).trans h.f1, by simpa using h.lt⟩

set_option maxHeartbeats 4000000 in
theorem linVariable (n i : Int) (w : World) :
    Calls Tryz.prog 16 #[.int .i64 n, .int .i64 i] w (LinRet w.heap.size (varO n i) w) := by
  have CS := fun (W : World) => isSize_any n W
  have Z : Bx2 (w.alloc (Obj.cells #[.slice none 0 0, .string ⟨#[]⟩] 27)) w.heap.size (.slice none 0 0) (.string ⟨#[]⟩) := (entry1 w (.slice none 0 0) (.string ⟨#[]⟩) 27).1
  have B : Below w.heap.size w (w.alloc (Obj.cells #[.slice none 0 0, .string ⟨#[]⟩] 27)) := (Below.refl _ _).alloc (Nat.le_refl _) _
  unfold varO
  by_cases hs : sizeB n = true
  · rw [if_pos hs]
    rw [hs] at CS
    obtain ⟨m, rfl⟩ : ∃ m : Nat, n = (m : Int) := by
      unfold sizeB at hs; simp at hs; exact ⟨n.toNat, by omega⟩
    have hm : m ≤ 32 := by unfold sizeB at hs; simp at hs; omega
    by_cases h1 : 0 ≤ i ∧ i < (m : Int)
    · rw [if_pos h1, Int.toNat_natCast]
      obtain ⟨h2, h3⟩ := h1
      obtain ⟨j, rfl⟩ := Int.eq_ofNat_of_zero_le h2
      rw [Int.toNat_natCast]
      have hj : j < m := by omega
      have CZ : ∀ W : World, Calls Tryz.prog 47 #[.int .i64 ((m : Int) + 1)] W fun e w' => ∃ g, e = .returned (.slice (some ⟨g, 0, none⟩) (m + 1) (m + 1)) ∧ XBlk 22 w' g (List.replicate (m + 1) z0) ∧ W.heap.size ≤ g ∧ Below W.heap.size W w' := fun W => by
        have := zeros_any (m + 1) W (by omega)
        exact_mod_cast this
      have hsz : ∀ s ∈ (List.replicate m z0).set j u1 ++ [z0], s.size ≤ 800000 := by
        intro s hs
        rcases List.mem_append.1 hs with h | h
        · rcases List.mem_or_eq_of_mem_set h with h | h
          · rw [List.eq_of_mem_replicate h]; decide
          · rw [h]; decide
        · rw [List.mem_singleton.1 h]; decide
      have CE : ∀ (W : World) (g : Nat), w.heap.size + 1 ≤ g → XBlk 22 W g ((List.replicate (m + 1) z0).set j u1) → Calls Tryz.prog 46 #[.slice (some ⟨g, 0, none⟩) (m + 1) (m + 1)] W (LinRet (w.heap.size + 1) (exprO ((List.replicate m z0).set j u1) z0) W) := fun W g hg r => by
        have := expression_any ((List.replicate m z0).set j u1) z0 (some ⟨g, 0, none⟩) (m + 1) W ((xblk_len r (rep_set m j hj)).row (by simp) (by omega)) hsz (by simp; omega) (w.heap.size + 1) (fun a ha => by cases ha; exact hg)
        rwa [List.length_set, List.length_replicate] at this
      clear hs hsz
      generalize exprO ((List.replicate m z0).set j u1) z0 = O at *
      have KS := Lib.hid CS; have KZ := Lib.hid CZ; have KE := Lib.hid CE; clear CS CZ CE
      go_enter Tryz.func16, Tryz.ntmps16
      go_wp2_with (go_at_call 44; refine (KS.out _).mono ?_; rintro e w1 ⟨rfl, rfl⟩; refine Hid.out ?_)
      refine Lib.hid ?_
      go_wp2_with (go_at_call 47; refine (KZ.out _).mono ?_; rintro e w3 ⟨g, rfl, hh, hg, hb3⟩; refine Hid.out ?_)
      have Z3 := Z.mono hb3; have hB3 := Below.chain B hb3
      have hgl : w.heap.size + 1 ≤ g := Nat.lt_of_lt_of_le Z.lt hg
      have hc := hh.cell j (by simp; omega)
      have hf := hh.frozen j
      have hlt := hh.lt
      have H4 := hh.set j (by simp; omega) u1
      have Z4 := Z3.set (g := g) (by omega) j (.string u1)
      have hB4 := hB3.setCell (p := ⟨g, j, none⟩) (by simp; omega) (.string u1)
      have ez : (z0 : ByteArray) = ⟨#[48]⟩ := rfl
      have eu : u1 = ⟨#[49]⟩ := rfl
      have HH4 := Lib.hid H4; have HZ4 := Lib.hid Z4; have HB4 := Lib.hid hB4
      clear Z hb3 B Z3 hB3 hh hg H4 Z4 hB4
      refine Lib.hid ?_
      go_wp2_with (go_at_call 46; refine (KE.out _ g hgl HH4.out).mono ?_; rintro e w5 ⟨ae, ce, rfl, re, hb5⟩; refine Hid.out ?_)
      have Z5 := HZ4.out.mono hb5; have hB5 := Below.chain HB4.out hb5
      have z0 := Z5.c0; have z1 := Z5.c1; have z2 := Z5.f0; have z3 := Z5.f1; have z4 := Z5.lt
      have HR := Lib.hid ((re.set (p := w.heap.size) (by omega) 0 (.slice ae O.l.length ce)).set (p := w.heap.size) (by omega) 1 (.string O.k))
      have HBB := Lib.hid (below2 (p := w.heap.size) hB5 (by omega) (.slice ae O.l.length ce) (.string O.k))
      have q := box2 Z5.c0 Z5.c1 (.slice ae O.l.length ce) (.string O.k)
      clear hb5 Z5 hB5 re
      refine Lib.hid ?_
      go_wp2
      obtain ⟨q1, q2⟩ := q
      refine bodyPost_ret (v := .tuple #[.agg #[.slice ae O.l.length ce, .string O.k], .int .i64 (O.e : Nat)]) (by simp [results, Tryz.results16, go_sem, q1, q2]) rfl ?_
      exact ⟨ae, ce, rfl, HR.out.lower (by omega), HBB.out⟩
    · rw [if_neg h1]
      clear hs
      have KS := Lib.hid CS; clear CS
      go_enter Tryz.func16, Tryz.ntmps16
      go_wp2_with (go_at_call 44; refine (KS.out _).mono ?_; rintro e w1 ⟨rfl, rfl⟩; refine Hid.out ?_)
      have z0 := Z.c0; have z1 := Z.c1; have z2 := Z.f0; have z3 := Z.f1; have z4 := Z.lt
      have q := box2 Z.c0 Z.c1 (.slice none 0 0) (.string ⟨#[]⟩)
      have HBB := Lib.hid (below2 (p := w.heap.size) B (by omega) (.slice none 0 0) (.string ⟨#[]⟩))
      have HB0 := Lib.hid B
      clear Z B
      obtain ⟨q1, q2⟩ := q
      refine Lib.hid ?_
      by_cases h2 : i < 0
      · go_wp2
        refine bodyPost_ret (by simp [results, Tryz.results16, go_sem, q1, q2]; rfl) rfl ?_
        first | exact ⟨none, 0, rfl, RowB.nil _ _, HBB.out⟩ | exact ⟨none, 0, rfl, RowB.nil _ _, HB0.out⟩
      · have h3 : (m : Int) ≤ i := by omega
        go_wp2
        refine bodyPost_ret (by simp [results, Tryz.results16, go_sem, q1, q2]; rfl) rfl ?_
        first | exact ⟨none, 0, rfl, RowB.nil _ _, HBB.out⟩ | exact ⟨none, 0, rfl, RowB.nil _ _, HB0.out⟩
  · rw [if_neg hs]
    rw [Bool.not_eq_true] at hs
    rw [hs] at CS
    have KS := Lib.hid CS; clear CS hs
    go_enter Tryz.func16, Tryz.ntmps16
    go_wp2_with (go_at_call 44; refine (KS.out _).mono ?_; rintro e w1 ⟨rfl, rfl⟩; refine Hid.out ?_)
    have z0 := Z.c0; have z1 := Z.c1; have z2 := Z.f0; have z3 := Z.f1; have z4 := Z.lt
    have q := box2 Z.c0 Z.c1 (.slice none 0 0) (.string ⟨#[]⟩)
    have HBB := Lib.hid (below2 (p := w.heap.size) B (by omega) (.slice none 0 0) (.string ⟨#[]⟩))
    have HB0 := Lib.hid B
    clear Z B
    refine Lib.hid ?_
    go_wp2
    obtain ⟨q1, q2⟩ := q
    refine bodyPost_ret (by simp [results, Tryz.results16, go_sem, q1, q2]; rfl) rfl ?_
    first | exact ⟨none, 0, rfl, RowB.nil _ _, HBB.out⟩ | exact ⟨none, 0, rfl, RowB.nil _ _, HB0.out⟩
end Go.Proofs.YtjobmkdaaionlaaGreatDoor

/-
  linear: the reference's Flat, One, Constant, Variable, FewText.
-/
set_option linter.unusedSimpArgs false
namespace Go.Proofs.YtjobmkdaaionlaaGreatDoor
open Go Go.Proofs Go.RowKit

/-- An element that is appended to an own row, in a list of operations. -/
theorem wpList_append_row {ops : Array Oper} {rest : List Oper} {o : Oper} {a : Act} {W : World} {Q : Exit → Act → World → Prop}
    (hg : o.guard = none) (s x : Operand) (hop : o.op = Op.call { callee := Callee.builtin Builtin.append, args := #[s, x], argTypes := #[25, 25] })
    (base : Nat) (v : Value) (n : Nat) (l : List ByteArray) (hn : l.length = n) (hs : a.eval s = v) (hown : W.ownsRow base 22 1 v n (strCells l)) (hl : n ≤ 1000000) (hbase : base ≤ W.heap.size)
    (ad : Nat) (k : ByteArray) (hx : a.eval x = .slice (some ⟨ad, 0, none⟩) 1 1) (hc : W.cell? ⟨ad, 0, none⟩ = some (.string k))
    (hK : ∀ (g cap : Nat) (w9 : World), w9.ownsRow base 22 1 (.slice (some ⟨g, 0, none⟩) (n + 1) cap) (n + 1) (strCells (l ++ [k])) → Below base W w9 → wpList Tryz.prog ops Q rest (a.put o.dst (.slice (some ⟨g, 0, none⟩) (n + 1) cap)) w9) :
    wpList Tryz.prog ops Q (o :: rest) a W := by
  obtain ⟨i0, hi, hz0, hz1, hz2⟩ := info_parts infoRat
  refine wpList_append_lies W hg s x 25 hop base 22 i0 (.string ⟨#[]⟩) 1 16 Tryz.underlying25 hi hz0 hz1 hz2 rfl (by decide) v n (strCells l) hs hown ⟨ad, 0, none⟩ 1 1 [.string k] hx rfl ?_ (by intro u hu; simp at hu; subst hu; rfl) (by decide) (by unfold maxLen; omega) (by omega) hbase _ rfl ?_
  · intro j u hu
    match j, hu with
    | 0, hu => simp at hu; subst hu; rw [addr_zero]; exact hc
  · intro g cap w9 hown9 hgrow _ hg9
    rw [show strCells l ++ [Value.string k] = strCells (l ++ [k]) from (strCells_append l [k]).symm] at hown9
    exact hK g cap w9 hown9 ((Below.refl _ _).grown hgrow hbase (fun k hk => (hown.lt k hk).1))

theorem Bx2.low {W W' : World} {p B : Nat} {u v : Value} (h : Bx2 W p u v) (g : Below B W W') (hp : p < B) : Bx2 W' p u v :=
  ⟨(g.cell (p := ⟨p, 0, none⟩) hp).trans h.c0, (g.cell (p := ⟨p, 1, none⟩) hp).trans h.c1, (g.frozen (p := ⟨p, 0, none⟩) hp).trans h.f0, (g.frozen (p := ⟨p, 1, none⟩) hp).trans h.f1, Nat.lt_of_lt_of_le h.lt g.size⟩
theorem Bx2.put0 {W : World} {p : Nat} {u v : Value} (h : Bx2 W p u v) (x : Value) : Bx2 (W.setCell ⟨p, 0, none⟩ x) p x v :=
  ⟨cellSet h.c0 x, (World.cell?_setCell_other W ⟨p, 0, none⟩ ⟨p, 1, none⟩ x (by simp)).trans h.c1, (World.frozen?_setCell ..).trans h.f0, (World.frozen?_setCell ..).trans h.f1, by simpa using h.lt⟩
/-- An expression that is being built: its box at B, its row behind. -/
structure OutL (W : World) (B : Nat) (ao : Option Addr) (c : Nat) (l : List ByteArray) (x : ByteArray) : Prop where
  bx : Bx2 W B (.slice ao l.length c) (.string x)
  own : W.ownsRow (B + 1) 22 1 (.slice ao l.length c) l.length (strCells l)
theorem OutL.mono {W W' : World} {B : Nat} {ao : Option Addr} {c : Nat} {l : List ByteArray} {x : ByteArray} (h : OutL W B ao c l x) (g : Below W.heap.size W W') : OutL W' B ao c l x := by
  refine ⟨h.bx.mono g, ?_⟩
  obtain ⟨h1, h2⟩ := h.own
  refine ⟨h1, h2.imp_right fun ⟨b, cap, cur, e, hb, hg, r⟩ => ⟨b, cap, cur, e, hb, ?_, r⟩⟩
  rw [g.block b (Array.getElem?_eq_some_iff.1 hg).1]; exact hg
theorem OutL.new (W : World) (x : ByteArray) (T : TypeId) : OutL (W.alloc (Obj.cells #[.slice none 0 0, .string x] T)) W.heap.size none 0 [] x := ⟨Bx2.new W _ _ T, World.ownsRow_nil ..⟩
theorem OutL.next {W W' : World} {B : Nat} {ao : Option Addr} {c : Nat} {l : List ByteArray} {x k : ByteArray} {g cap : Nat} (h : OutL W B ao c l x) (hown : W'.ownsRow (B + 1) 22 1 (.slice (some ⟨g, 0, none⟩) (l.length + 1) cap) (l.length + 1) (strCells (l ++ [k]))) (hb : Below (B + 1) W W') :
    OutL (W'.setCell ⟨B, 0, none⟩ (.slice (some ⟨g, 0, none⟩) (l.length + 1) cap)) B (some ⟨g, 0, none⟩) cap (l ++ [k]) x := by
  have e : (l ++ [k]).length = l.length + 1 := by simp
  refine ⟨?_, ?_⟩
  · rw [e]; exact (h.bx.low hb (Nat.lt_succ_self _)).put0 _
  · rw [e]; exact ownsRow_setCell_below hown (Nat.lt_succ_self _) _

/-- The value of an expression that was built. -/
def OutRet (Bd : Nat) (l : List ByteArray) (x : ByteArray) (w : World) (e : Ending) (w' : World) : Prop := ∃ ao c, e = .returned (.agg #[.slice ao l.length c, .string x]) ∧ w'.ownsRow Bd 22 1 (.slice ao l.length c) l.length (strCells l) ∧ Below w.heap.size w w'

set_option maxRecDepth 20000 in
set_option maxHeartbeats 4000000 in
theorem flat_any (n : Nat) (x : ByteArray) (w : World) (hn : n ≤ 1000) :
    Calls Tryz.prog 49 #[.int .i64 (n : Int), .string x] w (OutRet (w.heap.size + 1) (List.replicate n z0) x w) := by
  have Z := (Bx2.new w (.slice none 0 0) (.string ⟨#[]⟩) 27).over (Obj.cells #[.slice none 0 0, .string x] 27)
  have X := OutL.new (w.alloc (Obj.cells #[.slice none 0 0, .string ⟨#[]⟩] 27)) x 27
  rw [World.size_alloc] at X
  have B : Below w.heap.size w ((w.alloc (Obj.cells #[.slice none 0 0, .string ⟨#[]⟩] 27)).alloc (Obj.cells #[.slice none 0 0, .string x] 27)) := ((Below.refl _ _).alloc (Nat.le_refl _) _).alloc (by simp) _
  have e0 : ({ data := #[48] } : ByteArray) = z0 := rfl
  go_enter Tryz.func49, Tryz.ntmps49
  go_wp2_with fail
  go_loopw [6] (fun iv wr => ∃ (j : Nat) (ao : Option Addr) (c : Nat), j ≤ n ∧ iv = .int .i64 (j : Int) ∧ Bx2 wr w.heap.size (.slice none 0 0) (.string ⟨#[]⟩) ∧ OutL wr (w.heap.size + 1) ao c (List.replicate j z0) x ∧ Below w.heap.size w wr) (fun iv _ => n - (intOf iv).toNat)
  case atStart => exact ⟨0, none, 0, Nat.zero_le _, rfl, Z, X, B⟩
  case round =>
    obtain ⟨j, ao, c, hj, rfl, hz, hx, hB⟩ := hrel
    by_cases hlt : j < n
    · have hj0 : (0 : Int) ≤ (j : Int) := by omega
      have hj1 : (j : Int) < (n : Int) := by omega
      have X1 := hx.mono ((Below.refl _ _).alloc (Nat.le_refl _) (Obj.cells #[.string z0] 22))
      have Z1 := hz.mono ((Below.refl _ _).alloc (Nat.le_refl _) (Obj.cells #[.string z0] 22))
      have hB1 := hB.alloc hB.size (Obj.cells #[.string z0] 22)
      have x0 := hx.bx.c0; have x4 := hx.bx.lt
      have y0 := X1.bx.f0
      have hlen : (List.replicate j z0).length = j := List.length_replicate ..
      rw [hlen] at x0
      have ho := X1.own
      rw [hlen] at ho
      have HX := Lib.hid X1; have HZ := Lib.hid Z1; have HB := Lib.hid hB1
      clear hx hz X1 Z1 hB1 Z X B hB
      go_wp2_with (first | (at_builtin; refine wpList_append_row rfl (.tmp 15) (.tmp 16) rfl (w.heap.size + 1 + 1) _ j (List.replicate j z0) hlen (by simp [Act.eval, Act.put]) ho (by omega) (by simp; omega) wr.heap.size z0 (by simp [Act.eval, Act.put]) (by go_cell) ?_; intro g cap w9 hown9 hb9; refine Hid.out ?_) | fail)
      have hown9' : w9.ownsRow (w.heap.size + 1 + 1) 22 1 (.slice (some ⟨g, 0, none⟩) ((List.replicate j z0).length + 1) cap) ((List.replicate j z0).length + 1) (strCells (List.replicate j z0 ++ [z0])) := by rw [hlen]; exact hown9
      have N := HX.out.next hown9' hb9
      rw [hlen, ← List.replicate_succ'] at N
      have q0 := (HX.out.bx.low hb9 (Nat.lt_succ_self _)).c0; have q1 := (HX.out.bx.low hb9 (Nat.lt_succ_self _)).f0; have q2 := (HX.out.bx.low hb9 (Nat.lt_succ_self _)).lt
      have Z9 := (HZ.out.low hb9 (by omega)).set (g := w.heap.size + 1) (by omega) 0 (.slice (some ⟨g, 0, none⟩) (j + 1) cap)
      have B9 := ((HB.out.trans (hb9.mono (by omega))).setCell (p := ⟨w.heap.size + 1, 0, none⟩) (by simp) (.slice (some ⟨g, 0, none⟩) (j + 1) cap))
      have HN := Lib.hid N; have HZ9 := Lib.hid Z9; have HB9 := Lib.hid B9
      clear N Z9 B9 hown9 hown9' hb9 ho
      refine Lib.hid ?_
      go_wp2
      go_roundw
      case rel => exact ⟨j + 1, _, cap, by omega, by go_num, HZ9.out, HN.out, HB9.out⟩
      case measure => simp [intOf]; omega
    · have hjn : j = n := by omega
      subst hjn
      have hlen : (List.replicate j z0).length = j := List.length_replicate ..
      have x0 := hx.bx.c0; have x1 := hx.bx.c1; have x2 := hx.bx.f0; have x3 := hx.bx.f1; have x4 := hx.bx.lt
      have z00 := hz.c0; have z1 := hz.c1; have z2 := hz.f0; have z3 := hz.f1; have z4 := hz.lt
      have q := box2 hz.c0 hz.c1 (.slice ao j c) (.string x)
      have HBB := Lib.hid (below2 (p := w.heap.size) hB (by omega) (.slice ao j c) (.string x))
      have ho := ownsRow_setCell_below (ownsRow_setCell_below hx.own (a := ⟨w.heap.size, 0, none⟩) (by dsimp only; omega) (.slice ao j c)) (a := ⟨w.heap.size, 1, none⟩) (by dsimp only; omega) (.string x)
      rw [hlen] at ho x0
      have HO := Lib.hid ho
      obtain ⟨q1, q2⟩ := q
      clear ho hx hz hB Z X B
      go_wp2
      refine bodyPost_ret (v := .agg #[.slice ao j c, .string x]) (by simp [results, Tryz.results49, go_sem, q1, q2]) rfl ?_
      exact ⟨ao, c, by rw [hlen], by rw [hlen]; exact owns_base HO.out (by omega), HBB.out⟩
end Go.Proofs.YtjobmkdaaionlaaGreatDoor

/-
  linear: the reference's One, Constant, Variable, FewText.
-/
set_option linter.unusedSimpArgs false
namespace Go.Proofs.YtjobmkdaaionlaaGreatDoor
open Go Go.Proofs Go.RowKit

theorem shortS_num {s : ByteArray} (h : numE (bytes s) = 0) : shortS s = true := (numE_zero h).2
theorem exprO_num {l : List ByteArray} {k : ByteArray} (hl : ∀ s ∈ l, shortS s = true) (hk : shortS k = true) : exprO l k = ⟨l, k, 0⟩ := by
  unfold exprO
  rw [if_pos]
  rw [List.all_eq_true]
  intro s hs
  rcases List.mem_append.1 hs with h | h
  · exact hl s h
  · rw [List.mem_singleton.1 h]; exact hk
theorem short_z0 : shortS z0 = true := by kernel_rfl
theorem short_u1 : shortS u1 = true := by kernel_rfl
theorem constO_ok {n : Int} {x : ByteArray} (h0 : sizeB n = true) (h1 : numE (bytes x) = 0) : constO n x = ⟨List.replicate n.toNat z0, x, 0⟩ := by
  unfold constO
  rw [if_pos h0, if_pos h1, exprO_num (fun s hs => by rw [List.eq_of_mem_replicate hs]; exact short_z0) (shortS_num h1)]
theorem varO_ok {n i : Int} (h0 : sizeB n = true) (h1 : 0 ≤ i ∧ i < n) : varO n i = ⟨(List.replicate n.toNat z0).set i.toNat u1, z0, 0⟩ := by
  unfold varO
  rw [if_pos h0, if_pos h1, exprO_num (fun s hs => by
    rcases List.mem_or_eq_of_mem_set hs with h | h
    · rw [List.eq_of_mem_replicate h]; exact short_z0
    · rw [h]; exact short_u1) short_z0]

theorem OutRet.row {W : World} {Bd : Nat} {ao : Option Addr} {c : Nat} {l : List ByteArray} (h : W.ownsRow Bd 22 1 (.slice ao l.length c) l.length (strCells l)) : RowB Bd W ao c l := by
  refine ⟨?_, fun a ha => ?_⟩
  · obtain ⟨a2, c2, e, r⟩ := srow_of_ownsT h
    cases e; exact r
  · rcases h.2 with ⟨e, -⟩ | ⟨g, cap, cur, e, hb, -⟩
    · injection e with e1 e2 e3; rw [e1] at ha; cases ha
    · injection e with e1 e2 e3; rw [e1] at ha; cases ha; exact hb

set_option maxHeartbeats 2000000 in
theorem one_any (n i : Nat) (w : World) (hn : n ≤ 1000) (hi : i < n) :
    Calls Tryz.prog 50 #[.int .i64 (n : Int), .int .i64 (i : Int)] w (OutRet (w.heap.size + 1) ((List.replicate n z0).set i u1) z0 w) := by
  have CF := fun (W : World) => flat_any n z0 W hn
  have Z := Bx2.new w (.slice none 0 0) (.string ⟨#[]⟩) 27
  have B : Below w.heap.size w (w.alloc (Obj.cells #[.slice none 0 0, .string ⟨#[]⟩] 27)) := (Below.refl _ _).alloc (Nat.le_refl _) _
  have e0 : ({ data := #[48] } : ByteArray) = z0 := rfl
  have e1 : ({ data := #[49] } : ByteArray) = u1 := rfl
  have hlen : (List.replicate n z0).length = n := List.length_replicate ..
  have hlen2 : ((List.replicate n z0).set i u1).length = n := by simp
  unfold OutRet at CF
  rw [hlen] at CF
  have KF := Lib.hid CF; clear CF
  go_enter Tryz.func50, Tryz.ntmps50
  go_wp2_with (go_at_call 49; refine (KF.out _).mono ?_; rintro e w3 ⟨ao, c, rfl, ho, hb3⟩; refine Hid.out ?_)
  have Z3 := Z.mono hb3; have hB3 := Below.chain B hb3
  obtain ⟨g, cap, hf⟩ := (show ∃ g cap, Value.slice ao n c = .slice (some ⟨g, 0, none⟩) n cap from by
    rcases ho.2 with ⟨-, h0⟩ | ⟨g, cap, cur, e, -⟩
    · omega
    · exact ⟨g, cap, e⟩)
  cases hf
  have X3 := Bx2.new w3 (.slice (some ⟨g, 0, none⟩) n c) (.string z0) 27
  have Z4 := Z3.over (Obj.cells #[.slice (some ⟨g, 0, none⟩) n c, .string z0] 27)
  have hB4 := hB3.alloc hB3.size (Obj.cells #[.slice (some ⟨g, 0, none⟩) n c, .string z0] 27)
  have ho4 := ho.alloc (Obj.cells #[.slice (some ⟨g, 0, none⟩) n c, .string z0] 27)
  have hg := ho.lt g rfl
  have hgz : w.heap.size + 1 + 1 ≤ g := by have := hg.1; simp at this; omega
  have hg3 : g < w3.heap.size := hg.2
  have o0 : (w3.alloc (Obj.cells #[.slice (some ⟨g, 0, none⟩) n c, .string z0] 27)).cell? ⟨g, i, none⟩ = some (.string z0) := by
    rw [ho4.cellAt i (by omega)]; simp [strCells, hi]
  have o1 := ho4.frozenAt i
  have oc : n ≤ c := by
    rcases ho.2 with ⟨e, -⟩ | ⟨g2, cap2, cur, e, -, -, hle, -⟩
    · cases e
    · cases e; exact hle
  have ho5 := (ho.stored i (.string u1)).1.alloc (Obj.cells #[.slice (some ⟨g, 0, none⟩) n c, .string z0] 27)
  have es : (strCells (List.replicate n z0)).set i (.string u1) = strCells ((List.replicate n z0).set i u1) := by simp [strCells, List.map_set]
  rw [es] at ho5
  have esz : (w3.setCell ⟨g, i, none⟩ (.string u1)).heap.size = w3.heap.size := by simp
  have Z5 := (Z3.set (g := g) (by omega) i (.string u1)).over (Obj.cells #[.slice (some ⟨g, 0, none⟩) n c, .string z0] 27)
  have X5 := Bx2.new (w3.setCell ⟨g, i, none⟩ (.string u1)) (.slice (some ⟨g, 0, none⟩) n c) (.string z0) 27
  rw [esz] at X5
  have hB5' := hB3.setCell (p := ⟨g, i, none⟩) (by dsimp only; omega) (.string u1)
  have hB5 := hB5'.alloc hB5'.size (Obj.cells #[.slice (some ⟨g, 0, none⟩) n c, .string z0] 27)
  have x0 := X3.c0; have x1 := X3.c1; have x4 := X3.lt
  have y0 := X5.c0; have y1 := X5.c1; have y4 := X5.lt
  have z00 := Z5.c0; have z1 := Z5.c1; have z2 := Z5.f0; have z3 := Z5.f1; have z4 := Z5.lt
  have q := box2 Z5.c0 Z5.c1 (.slice (some ⟨g, 0, none⟩) n c) (.string z0)
  have HBB := Lib.hid (below2 (p := w.heap.size) hB5 (by omega) (.slice (some ⟨g, 0, none⟩) n c) (.string z0))
  have ho6 := ownsRow_setCell_below (ownsRow_setCell_below ho5 (a := ⟨w.heap.size, 0, none⟩) (by dsimp only; simp; omega) (.slice (some ⟨g, 0, none⟩) n c)) (a := ⟨w.heap.size, 1, none⟩) (by dsimp only; simp; omega) (.string z0)
  have HO := Lib.hid ho6
  have hi0 : (0 : Int) ≤ (i : Int) := by omega
  have hi1 : (i : Int) < (n : Int) := by omega
  clear Z hb3 B Z3 hB3 ho hg X3 Z4 hB4 ho4 ho5 Z5 X5 hB5 hB5' ho6
  obtain ⟨q1, q2⟩ := q
  refine Lib.hid ?_
  go_wp2
  refine bodyPost_ret (v := .agg #[.slice (some ⟨g, 0, none⟩) n c, .string z0]) (by simp [results, Tryz.results50, go_sem, q1, q2]) rfl ?_
  exact ⟨_, c, by rw [hlen2], by rw [hlen2]; exact owns_base HO.out (by simp), HBB.out⟩

set_option maxHeartbeats 2000000 in
theorem refConstant (n : Int) (x : ByteArray) (w : World) (hx : x.size ≤ 800000) :
    Calls Tryz.prog 15 #[.int .i64 n, .string x] w (LinRet w.heap.size (constO n x) w) := by
  have CX := fun (W : World) => refNumber03 x W hx
  have hcx := numE_cases (bytes x)
  have Z := Bx2.new w (.slice none 0 0) (.string ⟨#[]⟩) 27
  have B : Below w.heap.size w (w.alloc (Obj.cells #[.slice none 0 0, .string ⟨#[]⟩] 27)) := (Below.refl _ _).alloc (Nat.le_refl _) _
  by_cases hs : sizeB n = true
  · obtain ⟨m, rfl⟩ : ∃ m : Nat, n = (m : Int) := by
      unfold sizeB at hs; simp at hs; exact ⟨n.toNat, by omega⟩
    have hm : m ≤ 32 := by unfold sizeB at hs; simp at hs; omega
    by_cases h1 : numE (bytes x) = 0
    · rw [constO_ok hs h1, Int.toNat_natCast]
      rw [h1] at CX
      have CF := fun (W : World) => flat_any m x W (by omega)
      have hlen : (List.replicate m z0).length = m := List.length_replicate ..
      unfold OutRet at CF
      rw [hlen] at CF
      have KX := Lib.hid CX; have KF := Lib.hid CF; clear CX CF hs h1 hcx hx
      have m0 : (0 : Int) ≤ (m : Int) := by omega
      have m1 : (m : Int) ≤ 32 := by omega
      go_enter Tryz.func15, Tryz.ntmps15
      go_wp2_with (go_at_call 48; refine (KX.out _).mono ?_; rintro e w2 ⟨rfl, hb2⟩; refine Hid.out ?_)
      have Z2 := Z.mono hb2; have hB2 := Below.chain B hb2
      clear hb2 Z B
      refine Lib.hid ?_
      go_wp2_with (go_at_call 49; refine (KF.out _).mono ?_; rintro e w3 ⟨ao, c, rfl, ho, hb3⟩; refine Hid.out ?_)
      have Z3 := Z2.mono hb3; have hB3 := Below.chain hB2 hb3
      have z0' := Z3.c0; have z1 := Z3.c1; have z2 := Z3.f0; have z3 := Z3.f1; have z4 := Z3.lt
      have hlt2 := Z2.lt
      have ho1 : w3.ownsRow (w2.heap.size + 1) 22 1 (.slice ao (List.replicate m z0).length c) (List.replicate m z0).length (strCells (List.replicate m z0)) := by rw [hlen]; exact ho
      have HR := Lib.hid (((OutRet.row ho1).set (p := w.heap.size) (by omega) 0 (.slice ao m c)).set (p := w.heap.size) (by omega) 1 (.string x))
      have HBB := Lib.hid (below2 (p := w.heap.size) hB3 (by omega) (.slice ao m c) (.string x))
      have q := box2 Z3.c0 Z3.c1 (.slice ao m c) (.string x)
      clear hb3 Z3 hB3 Z2 hB2 ho ho1
      refine Lib.hid ?_
      go_wp2
      obtain ⟨q1, q2⟩ := q
      refine bodyPost_ret (v := .tuple #[.agg #[.slice ao m c, .string x], .int .i64 0]) (by simp [results, Tryz.results15, go_sem, q1, q2]) rfl ?_
      exact ⟨ao, c, by dsimp only; rw [hlen]; rfl, HR.out.lower (by omega), HBB.out⟩
    · unfold constO
      rw [if_pos hs, if_neg h1]
      have m0 : (0 : Int) ≤ (m : Int) := by omega
      have m1 : (m : Int) ≤ 32 := by omega
      rcases hcx with h | h | h
      · exact absurd h h1
      all_goals
        rw [h] at CX ⊢
        clear h h1 hs hx
        have KX := Lib.hid CX; clear CX
        go_enter Tryz.func15, Tryz.ntmps15
        go_wp2_with (go_at_call 48; refine (KX.out _).mono ?_; rintro e w2 ⟨rfl, hb2⟩; refine Hid.out ?_)
        have Z2 := Z.mono hb2; have hB2 := Below.chain B hb2
        have z0' := Z2.c0; have z1 := Z2.c1; have z2 := Z2.f0; have z3 := Z2.f1; have z4 := Z2.lt
        have q := box2 Z2.c0 Z2.c1 (.slice none 0 0) (.string ⟨#[]⟩)
        have HBB := Lib.hid (below2 (p := w.heap.size) hB2 (by omega) (.slice none 0 0) (.string ⟨#[]⟩))
        clear hb2 Z B Z2 hB2
        refine Lib.hid ?_
        go_wp2
        obtain ⟨q1, q2⟩ := q
        refine bodyPost_ret (by simp [results, Tryz.results15, go_sem, q1, q2]; rfl) rfl ?_
        exact ⟨none, 0, rfl, RowB.nil _ _, HBB.out⟩
  · unfold constO
    rw [if_neg hs]
    have hz0 := Z.c0; have hz1 := Z.c1; have z2 := Z.f0; have z3 := Z.f1; have z4 := Z.lt
    have q := box2 Z.c0 Z.c1 (.slice none 0 0) (.string ⟨#[]⟩)
    have HBB := Lib.hid (below2 (p := w.heap.size) B (by omega) (.slice none 0 0) (.string ⟨#[]⟩))
    have HB0 := Lib.hid B
    have hn : n < 0 ∨ (0 ≤ n ∧ 32 < n) := by unfold sizeB at hs; simp at hs; omega
    clear Z B CX hcx hs hx
    obtain ⟨q1, q2⟩ := q
    rcases hn with h | ⟨h, h'⟩
    all_goals
      go_enter Tryz.func15, Tryz.ntmps15
      go_wp2
      refine bodyPost_ret (by simp [results, Tryz.results15, go_sem, q1, q2]; rfl) rfl ?_
      first | exact ⟨none, 0, rfl, RowB.nil _ _, HBB.out⟩ | exact ⟨none, 0, rfl, RowB.nil _ _, HB0.out⟩

set_option maxHeartbeats 2000000 in
theorem refVariable (n i : Int) (w : World) :
    Calls Tryz.prog 17 #[.int .i64 n, .int .i64 i] w (LinRet w.heap.size (varO n i) w) := by
  have Z := Bx2.new w (.slice none 0 0) (.string ⟨#[]⟩) 27
  have B : Below w.heap.size w (w.alloc (Obj.cells #[.slice none 0 0, .string ⟨#[]⟩] 27)) := (Below.refl _ _).alloc (Nat.le_refl _) _
  by_cases hs : sizeB n = true
  · obtain ⟨m, rfl⟩ : ∃ m : Nat, n = (m : Int) := by
      unfold sizeB at hs; simp at hs; exact ⟨n.toNat, by omega⟩
    have hm : m ≤ 32 := by unfold sizeB at hs; simp at hs; omega
    have m0 : (0 : Int) ≤ (m : Int) := by omega
    have m1 : (m : Int) ≤ 32 := by omega
    by_cases h1 : 0 ≤ i ∧ i < (m : Int)
    · rw [varO_ok hs h1, Int.toNat_natCast]
      obtain ⟨h2, h3⟩ := h1
      obtain ⟨j, rfl⟩ := Int.eq_ofNat_of_zero_le h2
      rw [Int.toNat_natCast]
      have CF := fun (W : World) => one_any m j W (by omega) (by omega)
      have hlen : ((List.replicate m z0).set j u1).length = m := by simp
      unfold OutRet at CF
      rw [hlen] at CF
      have KF := Lib.hid CF; clear CF hs
      go_enter Tryz.func17, Tryz.ntmps17
      go_wp2_with (go_at_call 50; refine (KF.out _).mono ?_; rintro e w3 ⟨ao, c, rfl, ho, hb3⟩; refine Hid.out ?_)
      have Z3 := Z.mono hb3; have hB3 := Below.chain B hb3
      have z0' := Z3.c0; have z1 := Z3.c1; have z2 := Z3.f0; have z3 := Z3.f1; have z4 := Z3.lt
      have hlt2 := Z.lt
      have ho1 : w3.ownsRow (w.heap.size + 1 + 1) 22 1 (.slice ao ((List.replicate m z0).set j u1).length c) ((List.replicate m z0).set j u1).length (strCells ((List.replicate m z0).set j u1)) := by rw [hlen]; simpa using ho
      have HR := Lib.hid (((OutRet.row ho1).set (p := w.heap.size) (by omega) 0 (.slice ao m c)).set (p := w.heap.size) (by omega) 1 (.string z0))
      have HBB := Lib.hid (below2 (p := w.heap.size) hB3 (by omega) (.slice ao m c) (.string z0))
      have q := box2 Z3.c0 Z3.c1 (.slice ao m c) (.string z0)
      clear hb3 Z3 hB3 Z B ho ho1
      refine Lib.hid ?_
      go_wp2
      obtain ⟨q1, q2⟩ := q
      refine bodyPost_ret (v := .tuple #[.agg #[.slice ao m c, .string z0], .int .i64 0]) (by simp [results, Tryz.results17, go_sem, q1, q2]) rfl ?_
      exact ⟨ao, c, by dsimp only; rw [hlen]; rfl, HR.out.lower (by omega), HBB.out⟩
    · unfold varO
      rw [if_pos hs, if_neg h1]
      clear hs
      have hz0 := Z.c0; have hz1 := Z.c1; have z2 := Z.f0; have z3 := Z.f1; have z4 := Z.lt
      have q := box2 Z.c0 Z.c1 (.slice none 0 0) (.string ⟨#[]⟩)
      have HBB := Lib.hid (below2 (p := w.heap.size) B (by omega) (.slice none 0 0) (.string ⟨#[]⟩))
      have HB0 := Lib.hid B
      have hn : i < 0 ∨ (0 ≤ i ∧ (m : Int) ≤ i) := by omega
      clear Z B
      obtain ⟨q1, q2⟩ := q
      rcases hn with h | ⟨h, h'⟩
      all_goals
        go_enter Tryz.func17, Tryz.ntmps17
        go_wp2
        refine bodyPost_ret (by simp [results, Tryz.results17, go_sem, q1, q2]; rfl) rfl ?_
        first | exact ⟨none, 0, rfl, RowB.nil _ _, HBB.out⟩ | exact ⟨none, 0, rfl, RowB.nil _ _, HB0.out⟩
  · unfold varO
    rw [if_neg hs]
    have hz0 := Z.c0; have hz1 := Z.c1; have z2 := Z.f0; have z3 := Z.f1; have z4 := Z.lt
    have q := box2 Z.c0 Z.c1 (.slice none 0 0) (.string ⟨#[]⟩)
    have HBB := Lib.hid (below2 (p := w.heap.size) B (by omega) (.slice none 0 0) (.string ⟨#[]⟩))
    have HB0 := Lib.hid B
    have hn : n < 0 ∨ (0 ≤ n ∧ 32 < n) := by unfold sizeB at hs; simp at hs; omega
    clear Z B hs
    obtain ⟨q1, q2⟩ := q
    rcases hn with h | ⟨h, h'⟩
    all_goals
      go_enter Tryz.func17, Tryz.ntmps17
      go_wp2
      refine bodyPost_ret (by simp [results, Tryz.results17, go_sem, q1, q2]; rfl) rfl ?_
      first | exact ⟨none, 0, rfl, RowB.nil _ _, HBB.out⟩ | exact ⟨none, 0, rfl, RowB.nil _ _, HB0.out⟩

def fewT (s : ByteArray) : Bool := decide (s.size ≤ 450)
set_option maxHeartbeats 1000000 in
theorem fewText (s : ByteArray) (w : World) : Calls Tryz.prog 12 #[.string s] w fun e w' => e = .returned (.bool (fewT s)) ∧ w' = w := by
  unfold fewT
  by_cases h : s.size ≤ 450
  all_goals
    go_enter Tryz.func12, Tryz.ntmps12
    go_wp2
    refine bodyPost_ret (v := .bool (decide (s.size ≤ 450))) (by simp [results, Tryz.results12, go_sem] <;> omega) rfl ?_
    exact ⟨rfl, rfl⟩
end Go.Proofs.YtjobmkdaaionlaaGreatDoor
