import Derived.Test.YtdibcllakkjegaaGreatDoorCut28
import Derived.Test.YtdibcllakkjegaaGreatDoorCut8

set_option linter.unusedVariables false
/-
  parser: the entries.
-/
set_option linter.unusedSimpArgs false
set_option linter.unusedVariables false
namespace Go.Proofs.YtdibcllakkjegaaGreatDoor
open Go Go.Proofs Go.RowKit Go.Sort
def entW (k : Nat) (l : List Tk) : Want := match k with | 0 => .program (pHd l).a | 1 => .proc | 2 => .lvl 0 | _ => .lvl 4
def entT (k : Nat) (l : List Tk) (xs : List Syn) : Syn := match k with | 0 => .mk 0 (pHd l).a ⟨#[]⟩ 0 xs | _ => xs.headD (.mk 0 0 ⟨#[]⟩ 0 [])
def pDone (k : Nat) (l0 : List Tk) : Red → Except (Int × Nat) Syn
  | .error p => .error p
  | .ok (xs, l) => if pIs [] l = true then .ok (entT k l0 xs) else .error ((pHd l).a, 4)
noncomputable def pTk (k : Nat) (l : List Tk) : Except (Int × Nat) Syn := pDone k l (pLim (entW k l) 0 l)
noncomputable def pAns (k : Nat) (s : ByteArray) : Except (Int × Nat) Syn := if (scR s).2.2 = 0 then pTk k (scR s).1 else .error (((scR s).2.1 : Nat), (scR s).2.2)
theorem pTk_run {k : Nat} {L : List Tk} {xs : List Syn} {st : RSt} (h : Stp (entW k L) 0 (.ok L) xs st) :
    (∀ l, needS (tIs L st ⟨#[]⟩) st = .ok l → pTk k L = .ok (entT k L xs)) ∧ (∀ a c, needS (tIs L st ⟨#[]⟩) st = .bad a c → pTk k L = .error (a, c)) := by
  unfold pTk
  rcases h with ⟨l, rfl, h0, h1, hN⟩ | ⟨a, e, he, rfl, hN⟩
  · rw [pLim_eq hN]
    have ht : tIs L (.ok l) ⟨#[]⟩ = pIs [] l := tIs_ok L l []
    rw [ht]
    by_cases hp : pIs [] l = true
    · refine ⟨fun _ _ => by unfold pDone; dsimp only; rw [if_pos hp], fun a c e => ?_⟩
      unfold needS at e
      dsimp only at e
      rw [if_pos hp] at e
      cases e
    · refine ⟨fun _ e => ?_, fun a c e => ?_⟩
      · unfold needS at e
        dsimp only at e
        rw [if_neg hp] at e
        cases e
      · unfold needS at e
        dsimp only at e
        rw [if_neg hp] at e
        cases e
        unfold pDone
        dsimp only
        rw [if_neg hp]
  · rw [pLim_eq hN]
    refine ⟨fun _ e => (by cases e), fun b c e => ?_⟩
    cases e
    rfl
def zSyn : Value := .agg #[.int .i64 0, .int .i64 0, .string ⟨#[]⟩, .int .i64 0, .slice none 0 0]
def AnsAt (k : Nat) (s : ByteArray) (lo : Nat) (W : World) (v : Value) (a : Int) (c : Nat) : Prop :=
  (∃ x, pAns k s = .ok x ∧ a = 0 ∧ c = 0 ∧ synAt lo W x v) ∨ (pAns k s = .error (a, c) ∧ c ≠ 0 ∧ v = zSyn)
theorem AnsAt.keep {k : Nat} {s : ByteArray} {lo l2 : Nat} {W W' : World} {v : Value} {a : Int} {c : Nat} (h : AnsAt k s lo W v a c) (hb : From lo W W') (hl : l2 ≤ lo) : AnsAt k s l2 W' v a c := by
  rcases h with ⟨x, h1, h2, h3, h4⟩ | h
  · exact .inl ⟨x, h1, h2, h3, synAt.keep hb hl _ _ h4⟩
  · exact .inr h
abbrev Ans (k : Nat) (s : ByteArray) (w : World) : Ending → World → Prop := fun e w' =>
  ∃ k4 a4 t4 n4 o4 l4 c4 a c, e = .returned (.tuple #[.agg #[.int .i64 k4, .int .i64 a4, .string t4, .int .i64 n4, .slice o4 l4 c4], .int .i64 a, .int .i64 (c : Nat)]) ∧ Below w.heap.size w w' ∧
    AnsAt k s w.heap.size w' (.agg #[.int .i64 k4, .int .i64 a4, .string t4, .int .i64 n4, .slice o4 l4 c4]) a c
theorem EvAt.below {W W' : World} (h : EvAt W) (hb : Below W.heap.size W W') : EvAt W' := fun k hk => by
  obtain ⟨e1, ev, e2, e3⟩ := h k hk
  exact ⟨Nat.lt_of_lt_of_le e1 hb.size, ev, (hb.cell (p := ⟨k, 0, none⟩) e1).trans e2, e3⟩
theorem ans_bad (k : Nat) (s : ByteArray) (f : Value) (w : World) (he : (scR s).2.2 ≠ 0) (ht : Lib.TabBelow Tryz.prog w.heap.size w "surveyor/lexer.classes" .u8 clsTab) : Calls Tryz.prog 29 #[.string s, f] w (Ans k s w) := by
  refine (pparse_bad s f w he ht).mono ?_
  rintro e w' ⟨rfl, hb⟩
  exact ⟨0, 0, ⟨#[]⟩, 0, none, 0, 0, _, _, rfl, hb, .inr ⟨by unfold pAns; rw [if_neg he], he, rfl⟩⟩
theorem ans_of {k : Nat} {s : ByteArray} {w w' : World} {e : Ending} (he : (scR s).2.2 = 0) {L : List Tk} (hL : L = (scR s).1)
    (h : ∃ x st', (∃ xs, x = entT k L xs ∧ Stp (entW k L) 0 (.ok L) xs st') ∧ Below w.heap.size w w' ∧
      ((∃ l v, needS (tIs L st' ⟨#[]⟩) st' = .ok l ∧ e = .returned (.tuple #[v, .int .i64 0, .int .i64 0]) ∧ synAt w.heap.size w' x v) ∨
       (∃ a c, needS (tIs L st' ⟨#[]⟩) st' = .bad a c ∧ c ≠ 0 ∧ e = .returned (.tuple #[(.agg #[.int .i64 0, .int .i64 0, .string ⟨#[]⟩, .int .i64 0, .slice none 0 0]), .int .i64 a, .int .i64 (c : Nat)])))) : Ans k s w e w' := by
  obtain ⟨x, st', ⟨xs, rfl, hs⟩, hb, hc⟩ := h
  obtain ⟨g1, g2⟩ := pTk_run hs
  have hp : pAns k s = pTk k L := by unfold pAns; rw [if_pos he, hL]
  rcases hc with ⟨l, v, e1, rfl, hx⟩ | ⟨a, c, e1, hc, rfl⟩
  · obtain ⟨k4, a4, t4, n4, o4, l4, c4, q4, e5, rfl, hk4⟩ := hx.shape
    exact ⟨k4, a4, t4, n4, o4, l4, c4, 0, 0, rfl, hb, .inl ⟨_, by rw [hp]; exact g1 _ e1, rfl, rfl, hx⟩⟩
  · exact ⟨0, 0, ⟨#[]⟩, 0, none, 0, 0, a, c, rfl, hb, .inr ⟨by rw [hp]; exact g2 _ _ e1, hc, rfl⟩⟩
theorem ans_program (s : ByteArray) (w : World) (ht : Lib.TabBelow Tryz.prog w.heap.size w "surveyor/lexer.classes" .u8 clsTab) (hev : EvAt w) : Calls Tryz.prog 29 #[.string s, .func (.func 30) #[] #[]] w (Ans 0 s w) := by
  by_cases he : (scR s).2.2 = 0
  · refine (pparse_program s w _ rfl he ht hev (scan_toks he).1 (fun x st' => ∃ xs, x = entT 0 (scR s).1 xs ∧ Stp (entW 0 (scR s).1) 0 (.ok (scR s).1) xs st') (fun R W H => ?_)).mono ?_
    · obtain ⟨_, h2, h3⟩ := scan_toks he
      refine (all_program h3 h2 H).mono ?_
      rintro e W' ⟨xs, v, st', rfl, hx, hs, ha, hb⟩
      exact ⟨_, v, st', rfl, hx, ⟨xs, rfl, hs⟩, ha, hb⟩
    · intro e w' h
      exact ans_of he rfl h
  · exact ans_bad 0 s _ w he ht
set_option maxRecDepth 20000 in
set_option maxHeartbeats 1000000 in
theorem pParse (s : ByteArray) (w : World) (ht : Lib.TabBelow Tryz.prog w.heap.size w "surveyor/lexer.classes" .u8 clsTab) (hev : EvAt w) : Calls Tryz.prog 13 #[.string s] w (Ans 0 s w) := by
  have hA : Below w.heap.size w (w.alloc (Obj.cells #[.int .i64 0, .int .i64 0, .string ⟨#[]⟩, .int .i64 0, .slice none 0 0] 25)) := (Below.refl _ _).alloc (Nat.le_refl _) _
  have CS := ans_program s (w.alloc (Obj.cells #[.int .i64 0, .int .i64 0, .string ⟨#[]⟩, .int .i64 0, .slice none 0 0] 25)) (fun W hW => ht W (Below.chain hA hW)) (hev.below hA)
  have hX := Bx5.new w (.int .i64 0) (.int .i64 0) (.string ⟨#[]⟩) (.int .i64 0) (.slice none 0 0)
  have hz : (w.alloc (Obj.cells #[.int .i64 0, .int .i64 0, .string ⟨#[]⟩, .int .i64 0, .slice none 0 0] 25)).heap.size = w.heap.size + 1 := by simp
  have KS := Lib.hid CS; have HA := Lib.hid hA; have HX := Lib.hid hX; have HZ := Lib.hid hz
  clear CS hA hX ht hev hz
  go_enter Tryz.func13, Tryz.ntmps13
  go_wp2_with (go_at_call 29; refine (KS.out).mono ?_; rintro e w2 ⟨k4, a4, t4, n4, o4, l4, c4, a, c, rfl, hb2, hx⟩; refine Hid.out ?_)
  obtain ⟨y0, y1, y2, y3, y4, yf, yl⟩ := HX.out.below hb2
  have f0 := yf 0; have f1 := yf 1; have f2 := yf 2; have f3 := yf 3; have f4 := yf 4
  obtain ⟨r0, r1, r2, r3, r4⟩ := box5 y0 y1 y2 y3 y4 (.int .i64 k4) (.int .i64 a4) (.string t4) (.int .i64 n4) (.slice o4 l4 c4) _ rfl
  have hlo : w.heap.size < (w.alloc (Obj.cells #[.int .i64 0, .int .i64 0, .string ⟨#[]⟩, .int .i64 0, .slice none 0 0] 25)).heap.size := by rw [HZ.out]; exact Nat.lt_succ_self _
  have HB := Lib.hid (below_set5 (Below.chain HA.out hb2) (Nat.le_refl _) (.int .i64 k4) (.int .i64 a4) (.string t4) (.int .i64 n4) (.slice o4 l4 c4))
  have fr : From (w.alloc (Obj.cells #[.int .i64 0, .int .i64 0, .string ⟨#[]⟩, .int .i64 0, .slice none 0 0] 25)).heap.size w2 _ := (((((From.refl (w.alloc (Obj.cells #[.int .i64 0, .int .i64 0, .string ⟨#[]⟩, .int .i64 0, .slice none 0 0] 25)).heap.size w2).setCell ⟨w.heap.size, 0, none⟩ hlo (.int .i64 k4)).setCell ⟨w.heap.size, 1, none⟩ hlo (.int .i64 a4)).setCell ⟨w.heap.size, 2, none⟩ hlo (.string t4)).setCell ⟨w.heap.size, 3, none⟩ hlo (.int .i64 n4)).setCell ⟨w.heap.size, 4, none⟩ hlo (.slice o4 l4 c4)
  have GX := Lib.hid (hx.keep fr (Nat.le_of_lt hlo))
  clear hb2 hx yf yl fr hlo
  refine Lib.hid ?_
  go_wp2
  refine bodyPost_ret (by simp [results, Tryz.results13, go_sem, r0, r1, r2, r3, r4]; rfl) rfl ?_
  exact ⟨_, _, _, _, _, _, _, _, _, rfl, HB.out, GX.out⟩
theorem ans_procedure (s : ByteArray) (w : World) (ht : Lib.TabBelow Tryz.prog w.heap.size w "surveyor/lexer.classes" .u8 clsTab) (hev : EvAt w) : Calls Tryz.prog 29 #[.string s, .func (.func 47) #[] #[]] w (Ans 1 s w) := by
  by_cases he : (scR s).2.2 = 0
  · refine (pparse_procedure s w _ rfl he ht hev (scan_toks he).1 (fun x st' => ∃ xs, x = entT 1 (scR s).1 xs ∧ Stp (entW 1 (scR s).1) 0 (.ok (scR s).1) xs st') (fun R W H => ?_)).mono ?_
    · obtain ⟨_, h2, h3⟩ := scan_toks he
      refine (all_procedure h3 h2 H).mono ?_
      rintro e W' ⟨x, v, st', rfl, hx, hs, ha, hb⟩
      exact ⟨_, v, st', rfl, hx, ⟨[x], rfl, hs⟩, ha, hb⟩
    · intro e w' h
      exact ans_of he rfl h
  · exact ans_bad 1 s _ w he ht
set_option maxRecDepth 20000 in
set_option maxHeartbeats 1000000 in
theorem pProc (s : ByteArray) (w : World) (ht : Lib.TabBelow Tryz.prog w.heap.size w "surveyor/lexer.classes" .u8 clsTab) (hev : EvAt w) : Calls Tryz.prog 27 #[.string s] w (Ans 1 s w) := by
  have hA : Below w.heap.size w (w.alloc (Obj.cells #[.int .i64 0, .int .i64 0, .string ⟨#[]⟩, .int .i64 0, .slice none 0 0] 25)) := (Below.refl _ _).alloc (Nat.le_refl _) _
  have CS := ans_procedure s (w.alloc (Obj.cells #[.int .i64 0, .int .i64 0, .string ⟨#[]⟩, .int .i64 0, .slice none 0 0] 25)) (fun W hW => ht W (Below.chain hA hW)) (hev.below hA)
  have hX := Bx5.new w (.int .i64 0) (.int .i64 0) (.string ⟨#[]⟩) (.int .i64 0) (.slice none 0 0)
  have hz : (w.alloc (Obj.cells #[.int .i64 0, .int .i64 0, .string ⟨#[]⟩, .int .i64 0, .slice none 0 0] 25)).heap.size = w.heap.size + 1 := by simp
  have KS := Lib.hid CS; have HA := Lib.hid hA; have HX := Lib.hid hX; have HZ := Lib.hid hz
  clear CS hA hX ht hev hz
  go_enter Tryz.func27, Tryz.ntmps27
  go_wp2_with (go_at_call 29; refine (KS.out).mono ?_; rintro e w2 ⟨k4, a4, t4, n4, o4, l4, c4, a, c, rfl, hb2, hx⟩; refine Hid.out ?_)
  obtain ⟨y0, y1, y2, y3, y4, yf, yl⟩ := HX.out.below hb2
  have f0 := yf 0; have f1 := yf 1; have f2 := yf 2; have f3 := yf 3; have f4 := yf 4
  obtain ⟨r0, r1, r2, r3, r4⟩ := box5 y0 y1 y2 y3 y4 (.int .i64 k4) (.int .i64 a4) (.string t4) (.int .i64 n4) (.slice o4 l4 c4) _ rfl
  have hlo : w.heap.size < (w.alloc (Obj.cells #[.int .i64 0, .int .i64 0, .string ⟨#[]⟩, .int .i64 0, .slice none 0 0] 25)).heap.size := by rw [HZ.out]; exact Nat.lt_succ_self _
  have HB := Lib.hid (below_set5 (Below.chain HA.out hb2) (Nat.le_refl _) (.int .i64 k4) (.int .i64 a4) (.string t4) (.int .i64 n4) (.slice o4 l4 c4))
  have fr : From (w.alloc (Obj.cells #[.int .i64 0, .int .i64 0, .string ⟨#[]⟩, .int .i64 0, .slice none 0 0] 25)).heap.size w2 _ := (((((From.refl (w.alloc (Obj.cells #[.int .i64 0, .int .i64 0, .string ⟨#[]⟩, .int .i64 0, .slice none 0 0] 25)).heap.size w2).setCell ⟨w.heap.size, 0, none⟩ hlo (.int .i64 k4)).setCell ⟨w.heap.size, 1, none⟩ hlo (.int .i64 a4)).setCell ⟨w.heap.size, 2, none⟩ hlo (.string t4)).setCell ⟨w.heap.size, 3, none⟩ hlo (.int .i64 n4)).setCell ⟨w.heap.size, 4, none⟩ hlo (.slice o4 l4 c4)
  have GX := Lib.hid (hx.keep fr (Nat.le_of_lt hlo))
  clear hb2 hx yf yl fr hlo
  refine Lib.hid ?_
  go_wp2
  refine bodyPost_ret (by simp [results, Tryz.results27, go_sem, r0, r1, r2, r3, r4]; rfl) rfl ?_
  exact ⟨_, _, _, _, _, _, _, _, _, rfl, HB.out, GX.out⟩
theorem ans_condition (s : ByteArray) (w : World) (ht : Lib.TabBelow Tryz.prog w.heap.size w "surveyor/lexer.classes" .u8 clsTab) (hev : EvAt w) : Calls Tryz.prog 29 #[.string s, .func (.func 41) #[] #[]] w (Ans 2 s w) := by
  by_cases he : (scR s).2.2 = 0
  · refine (pparse_condition s w _ rfl he ht hev (scan_toks he).1 (fun x st' => ∃ xs, x = entT 2 (scR s).1 xs ∧ Stp (entW 2 (scR s).1) 0 (.ok (scR s).1) xs st') (fun R W H => ?_)).mono ?_
    · obtain ⟨_, h2, h3⟩ := scan_toks he
      refine (all_condition h3 h2 H).mono ?_
      rintro e W' ⟨x, v, st', rfl, hx, hs, ha, hb⟩
      exact ⟨_, v, st', rfl, hx, ⟨[x], rfl, hs⟩, ha, hb⟩
    · intro e w' h
      exact ans_of he rfl h
  · exact ans_bad 2 s _ w he ht
set_option maxRecDepth 20000 in
set_option maxHeartbeats 1000000 in
theorem pCond (s : ByteArray) (w : World) (ht : Lib.TabBelow Tryz.prog w.heap.size w "surveyor/lexer.classes" .u8 clsTab) (hev : EvAt w) : Calls Tryz.prog 19 #[.string s] w (Ans 2 s w) := by
  have hA : Below w.heap.size w (w.alloc (Obj.cells #[.int .i64 0, .int .i64 0, .string ⟨#[]⟩, .int .i64 0, .slice none 0 0] 25)) := (Below.refl _ _).alloc (Nat.le_refl _) _
  have CS := ans_condition s (w.alloc (Obj.cells #[.int .i64 0, .int .i64 0, .string ⟨#[]⟩, .int .i64 0, .slice none 0 0] 25)) (fun W hW => ht W (Below.chain hA hW)) (hev.below hA)
  have hX := Bx5.new w (.int .i64 0) (.int .i64 0) (.string ⟨#[]⟩) (.int .i64 0) (.slice none 0 0)
  have hz : (w.alloc (Obj.cells #[.int .i64 0, .int .i64 0, .string ⟨#[]⟩, .int .i64 0, .slice none 0 0] 25)).heap.size = w.heap.size + 1 := by simp
  have KS := Lib.hid CS; have HA := Lib.hid hA; have HX := Lib.hid hX; have HZ := Lib.hid hz
  clear CS hA hX ht hev hz
  go_enter Tryz.func19, Tryz.ntmps19
  go_wp2_with (go_at_call 29; refine (KS.out).mono ?_; rintro e w2 ⟨k4, a4, t4, n4, o4, l4, c4, a, c, rfl, hb2, hx⟩; refine Hid.out ?_)
  obtain ⟨y0, y1, y2, y3, y4, yf, yl⟩ := HX.out.below hb2
  have f0 := yf 0; have f1 := yf 1; have f2 := yf 2; have f3 := yf 3; have f4 := yf 4
  obtain ⟨r0, r1, r2, r3, r4⟩ := box5 y0 y1 y2 y3 y4 (.int .i64 k4) (.int .i64 a4) (.string t4) (.int .i64 n4) (.slice o4 l4 c4) _ rfl
  have hlo : w.heap.size < (w.alloc (Obj.cells #[.int .i64 0, .int .i64 0, .string ⟨#[]⟩, .int .i64 0, .slice none 0 0] 25)).heap.size := by rw [HZ.out]; exact Nat.lt_succ_self _
  have HB := Lib.hid (below_set5 (Below.chain HA.out hb2) (Nat.le_refl _) (.int .i64 k4) (.int .i64 a4) (.string t4) (.int .i64 n4) (.slice o4 l4 c4))
  have fr : From (w.alloc (Obj.cells #[.int .i64 0, .int .i64 0, .string ⟨#[]⟩, .int .i64 0, .slice none 0 0] 25)).heap.size w2 _ := (((((From.refl (w.alloc (Obj.cells #[.int .i64 0, .int .i64 0, .string ⟨#[]⟩, .int .i64 0, .slice none 0 0] 25)).heap.size w2).setCell ⟨w.heap.size, 0, none⟩ hlo (.int .i64 k4)).setCell ⟨w.heap.size, 1, none⟩ hlo (.int .i64 a4)).setCell ⟨w.heap.size, 2, none⟩ hlo (.string t4)).setCell ⟨w.heap.size, 3, none⟩ hlo (.int .i64 n4)).setCell ⟨w.heap.size, 4, none⟩ hlo (.slice o4 l4 c4)
  have GX := Lib.hid (hx.keep fr (Nat.le_of_lt hlo))
  clear hb2 hx yf yl fr hlo
  refine Lib.hid ?_
  go_wp2
  refine bodyPost_ret (by simp [results, Tryz.results19, go_sem, r0, r1, r2, r3, r4]; rfl) rfl ?_
  exact ⟨_, _, _, _, _, _, _, _, _, rfl, HB.out, GX.out⟩
theorem ans_expression (s : ByteArray) (w : World) (ht : Lib.TabBelow Tryz.prog w.heap.size w "surveyor/lexer.classes" .u8 clsTab) (hev : EvAt w) : Calls Tryz.prog 29 #[.string s, .func (.func 46) #[] #[]] w (Ans 3 s w) := by
  by_cases he : (scR s).2.2 = 0
  · refine (pparse_expression s w _ rfl he ht hev (scan_toks he).1 (fun x st' => ∃ xs, x = entT 3 (scR s).1 xs ∧ Stp (entW 3 (scR s).1) 0 (.ok (scR s).1) xs st') (fun R W H => ?_)).mono ?_
    · obtain ⟨_, h2, h3⟩ := scan_toks he
      refine (all_expression h3 h2 H).mono ?_
      rintro e W' ⟨x, v, st', rfl, hx, hs, ha, hb⟩
      exact ⟨_, v, st', rfl, hx, ⟨[x], rfl, hs⟩, ha, hb⟩
    · intro e w' h
      exact ans_of he rfl h
  · exact ans_bad 3 s _ w he ht
set_option maxRecDepth 20000 in
set_option maxHeartbeats 1000000 in
theorem pExpr (s : ByteArray) (w : World) (ht : Lib.TabBelow Tryz.prog w.heap.size w "surveyor/lexer.classes" .u8 clsTab) (hev : EvAt w) : Calls Tryz.prog 26 #[.string s] w (Ans 3 s w) := by
  have hA : Below w.heap.size w (w.alloc (Obj.cells #[.int .i64 0, .int .i64 0, .string ⟨#[]⟩, .int .i64 0, .slice none 0 0] 25)) := (Below.refl _ _).alloc (Nat.le_refl _) _
  have CS := ans_expression s (w.alloc (Obj.cells #[.int .i64 0, .int .i64 0, .string ⟨#[]⟩, .int .i64 0, .slice none 0 0] 25)) (fun W hW => ht W (Below.chain hA hW)) (hev.below hA)
  have hX := Bx5.new w (.int .i64 0) (.int .i64 0) (.string ⟨#[]⟩) (.int .i64 0) (.slice none 0 0)
  have hz : (w.alloc (Obj.cells #[.int .i64 0, .int .i64 0, .string ⟨#[]⟩, .int .i64 0, .slice none 0 0] 25)).heap.size = w.heap.size + 1 := by simp
  have KS := Lib.hid CS; have HA := Lib.hid hA; have HX := Lib.hid hX; have HZ := Lib.hid hz
  clear CS hA hX ht hev hz
  go_enter Tryz.func26, Tryz.ntmps26
  go_wp2_with (go_at_call 29; refine (KS.out).mono ?_; rintro e w2 ⟨k4, a4, t4, n4, o4, l4, c4, a, c, rfl, hb2, hx⟩; refine Hid.out ?_)
  obtain ⟨y0, y1, y2, y3, y4, yf, yl⟩ := HX.out.below hb2
  have f0 := yf 0; have f1 := yf 1; have f2 := yf 2; have f3 := yf 3; have f4 := yf 4
  obtain ⟨r0, r1, r2, r3, r4⟩ := box5 y0 y1 y2 y3 y4 (.int .i64 k4) (.int .i64 a4) (.string t4) (.int .i64 n4) (.slice o4 l4 c4) _ rfl
  have hlo : w.heap.size < (w.alloc (Obj.cells #[.int .i64 0, .int .i64 0, .string ⟨#[]⟩, .int .i64 0, .slice none 0 0] 25)).heap.size := by rw [HZ.out]; exact Nat.lt_succ_self _
  have HB := Lib.hid (below_set5 (Below.chain HA.out hb2) (Nat.le_refl _) (.int .i64 k4) (.int .i64 a4) (.string t4) (.int .i64 n4) (.slice o4 l4 c4))
  have fr : From (w.alloc (Obj.cells #[.int .i64 0, .int .i64 0, .string ⟨#[]⟩, .int .i64 0, .slice none 0 0] 25)).heap.size w2 _ := (((((From.refl (w.alloc (Obj.cells #[.int .i64 0, .int .i64 0, .string ⟨#[]⟩, .int .i64 0, .slice none 0 0] 25)).heap.size w2).setCell ⟨w.heap.size, 0, none⟩ hlo (.int .i64 k4)).setCell ⟨w.heap.size, 1, none⟩ hlo (.int .i64 a4)).setCell ⟨w.heap.size, 2, none⟩ hlo (.string t4)).setCell ⟨w.heap.size, 3, none⟩ hlo (.int .i64 n4)).setCell ⟨w.heap.size, 4, none⟩ hlo (.slice o4 l4 c4)
  have GX := Lib.hid (hx.keep fr (Nat.le_of_lt hlo))
  clear hb2 hx yf yl fr hlo
  refine Lib.hid ?_
  go_wp2
  refine bodyPost_ret (by simp [results, Tryz.results26, go_sem, r0, r1, r2, r3, r4]; rfl) rfl ?_
  exact ⟨_, _, _, _, _, _, _, _, _, rfl, HB.out, GX.out⟩
end Go.Proofs.YtdibcllakkjegaaGreatDoor

set_option linter.unusedSimpArgs false
set_option linter.unusedVariables false
namespace Go.Proofs.YtdibcllakkjegaaGreatDoor
open Go Go.Proofs Go.RowKit
theorem pAns_of {k f : Nat} {s : ByteArray} {r : Except (Int × Nat) Syn} (he : (scR s).2.2 = 0) (h : pDone k (scR s).1 (pRead f (entW k (scR s).1) 0 (scR s).1) = r) (h0 : ∀ p, r = .error p → p.2 ≠ 0) : pAns k s = r := by
  unfold pAns pTk
  rw [if_pos he, pLim_of (f := f) rfl, h]
  intro q
  rw [q] at h
  exact h0 _ h.symm rfl
theorem awP1 : pAns 0 ⟨#[112, 114, 111, 99, 32, 109, 97, 105, 110, 40, 41, 32, 123, 32, 120, 32, 58, 61, 32, 97, 91, 105, 93, 59, 32, 125]⟩ = .ok (.mk 0 0 ⟨#[]⟩ 0 [(.mk 2 0 ⟨#[109, 97, 105, 110]⟩ 0 [(.mk 3 9 ⟨#[]⟩ 0 []), (.mk 3 12 ⟨#[]⟩ 0 []), (.mk 5 12 ⟨#[]⟩ 0 []), (.mk 5 12 ⟨#[]⟩ 0 []), (.mk 6 12 ⟨#[]⟩ 0 [(.mk 9 14 ⟨#[]⟩ 0 [(.mk 3 14 ⟨#[]⟩ 0 [(.mk 18 14 ⟨#[120]⟩ 0 [])]), (.mk 16 19 ⟨#[97]⟩ 0 [(.mk 18 21 ⟨#[105]⟩ 0 [])])])])])]) := pAns_of (f := 60) (by kernel_rfl) (by kernel_rfl) (fun p q => by cases q)
theorem awP2 : pAns 0 ⟨#[112, 114, 111, 99, 32, 109, 97, 105, 110, 40, 41, 32, 123, 32, 120, 32, 58, 61, 32, 97, 91, 105, 93, 32, 43, 32, 49, 59, 32, 125]⟩ = .error (24, 4) := pAns_of (f := 60) (by kernel_rfl) (by kernel_rfl) (fun p q => by cases q; decide)
theorem awP3 : pAns 2 ⟨#[110, 111, 116, 32, 97, 32, 60, 32, 98, 32, 111, 114, 32, 99]⟩ = .ok (.mk 22 0 ⟨#[111, 114]⟩ 0 [(.mk 21 0 ⟨#[110, 111, 116]⟩ 0 [(.mk 22 4 ⟨#[60]⟩ 0 [(.mk 18 4 ⟨#[97]⟩ 0 []), (.mk 18 8 ⟨#[98]⟩ 0 [])])]), (.mk 18 13 ⟨#[99]⟩ 0 [])]) := pAns_of (f := 60) (by kernel_rfl) (by kernel_rfl) (fun p q => by cases q)
theorem awP4 : pAns 2 ⟨#[97, 32, 60, 32, 98, 32, 60, 32, 99]⟩ = .error (6, 4) := pAns_of (f := 60) (by kernel_rfl) (by kernel_rfl) (fun p q => by cases q; decide)
theorem awP5 : pAns 3 ⟨#[45, 40, 49, 32, 45, 32, 50, 41, 32, 42, 32, 120]⟩ = .ok (.mk 22 0 ⟨#[42]⟩ 0 [(.mk 21 0 ⟨#[45]⟩ 0 [(.mk 22 2 ⟨#[45]⟩ 0 [(.mk 20 2 ⟨#[49]⟩ 0 []), (.mk 20 6 ⟨#[50]⟩ 0 [])])]), (.mk 18 11 ⟨#[120]⟩ 0 [])]) := pAns_of (f := 60) (by kernel_rfl) (by kernel_rfl) (fun p q => by cases q)
end Go.Proofs.YtdibcllakkjegaaGreatDoor

set_option linter.unusedSimpArgs false
set_option linter.unusedVariables false
namespace Go.Proofs.YtdibcllakkjegaaGreatDoor
open Go Go.Proofs Go.RowKit Go.Sort
structure SL (lo : Nat) (W : World) (ks : List Syn) (b c : Nat) : Prop where
  low : lo ≤ b
  lt : b < W.heap.size
  le : ks.length ≤ c
  max : c ≤ maxLen
  row : rowAt lo W ks b 0
theorem SL.keep {lo l2 : Nat} {W W' : World} {ks : List Syn} {b c : Nat} (h : SL lo W ks b c) (hb : From lo W W') (hl : l2 ≤ lo) : SL l2 W' ks b c :=
  ⟨Nat.le_trans hl h.low, Nat.lt_of_lt_of_le h.lt hb.size, h.le, h.max, rowAt.keep hb hl ks b 0 h.low h.lt h.row⟩
theorem SL.below {lo : Nat} {W W' : World} {ks : List Syn} {b c : Nat} (h : SL lo W ks b c) (hb : Below W.heap.size W W') : SL lo W' ks b c := h.keep (From.of_below hb) (Nat.le_refl _)
theorem kids_cons {lo : Nat} {W : World} {x : Syn} {r : List Syn} {kv : Value} (h : kidsAt lo W (x :: r) kv) : ∃ b c, kv = .slice (some ⟨b, 0, none⟩) (r.length + 1) c ∧ SL lo W (x :: r) b c := by
  rcases h with ⟨h, -⟩ | ⟨b, c, e1, h1, h2, h3, h4, h5⟩
  · cases h
  · exact ⟨b, c, e1, h3, h4, h1, h2, h5⟩
theorem row_cons {lo : Nat} {W : World} {k a n : Int} {t : ByteArray} {ks r : List Syn} {b o : Nat} (h : rowAt lo W (.mk k a t n ks :: r) b o) :
    W.cell? ⟨b, o, none⟩ = some (.int .i64 k) ∧ W.cell? ⟨b, o + 1, none⟩ = some (.int .i64 a) ∧ W.cell? ⟨b, o + 2, none⟩ = some (.string t) ∧ W.cell? ⟨b, o + 3, none⟩ = some (.int .i64 n) ∧ (∃ kv, W.cell? ⟨b, o + 4, none⟩ = some kv ∧ kidsAt lo W ks kv) ∧ rowAt lo W r b (o + 5) := by
  rw [rowAt] at h
  obtain ⟨⟨v0, v1, v2, v3, v4, c0, c1, c2, c3, c4, hx⟩, hr⟩ := h
  obtain ⟨kv, e, hk⟩ := synAt_mk.mp hx
  simp only [Value.agg.injEq, Array.mk.injEq, List.cons.injEq, and_true] at e
  obtain ⟨rfl, rfl, rfl, rfl, rfl⟩ := e
  exact ⟨c0, c1, c2, c3, ⟨_, c4, hk⟩, hr⟩
theorem treeA {lo : Nat} {W : World} {b1 c1 : Nat} (h : SL lo W [(.mk 2 0 ⟨#[109, 97, 105, 110]⟩ 0 [(.mk 3 9 ⟨#[]⟩ 0 []), (.mk 3 12 ⟨#[]⟩ 0 []), (.mk 5 12 ⟨#[]⟩ 0 []), (.mk 5 12 ⟨#[]⟩ 0 []), (.mk 6 12 ⟨#[]⟩ 0 [(.mk 9 14 ⟨#[]⟩ 0 [(.mk 3 14 ⟨#[]⟩ 0 [(.mk 18 14 ⟨#[120]⟩ 0 [])]), (.mk 16 19 ⟨#[97]⟩ 0 [(.mk 18 21 ⟨#[105]⟩ 0 [])])])])])] b1 c1) : ∃ p q r p2 q2 r2, W.cell? ⟨b1, 4, none⟩ = some (.slice (some ⟨p, 0, none⟩) 5 p2) ∧ W.cell? ⟨p, 24, none⟩ = some (.slice (some ⟨q, 0, none⟩) 1 q2) ∧
    W.cell? ⟨q, 0, none⟩ = some (.int .i64 9) ∧ W.cell? ⟨q, 1, none⟩ = some (.int .i64 14) ∧ W.cell? ⟨q, 2, none⟩ = some (.string ⟨#[]⟩) ∧ W.cell? ⟨q, 3, none⟩ = some (.int .i64 0) ∧ W.cell? ⟨q, 4, none⟩ = some (.slice (some ⟨r, 0, none⟩) 2 r2) ∧ W.cell? ⟨r, 5, none⟩ = some (.int .i64 16) ∧ (p < W.heap.size ∧ q < W.heap.size ∧ r < W.heap.size) := by
  obtain ⟨-, -, -, -, ⟨kv, e1, hk⟩, -⟩ := row_cons h.row
  obtain ⟨p, p2, rfl, hp⟩ := kids_cons hk
  obtain ⟨-, -, -, -, -, h1⟩ := row_cons hp.row
  obtain ⟨-, -, -, -, -, h2⟩ := row_cons h1
  obtain ⟨-, -, -, -, -, h3⟩ := row_cons h2
  obtain ⟨-, -, -, -, -, h4⟩ := row_cons h3
  obtain ⟨-, -, -, -, ⟨kv, e2, hk⟩, -⟩ := row_cons h4
  obtain ⟨q, q2, rfl, hq⟩ := kids_cons hk
  obtain ⟨f0, f1, f2, f3, ⟨kv, f4, hk⟩, -⟩ := row_cons hq.row
  obtain ⟨r, r2, rfl, hr⟩ := kids_cons hk
  obtain ⟨-, -, -, -, -, h5⟩ := row_cons hr.row
  obtain ⟨e5, -⟩ := row_cons h5
  exact ⟨p, q, r, p2, q2, r2, e1, e2, f0, f1, f2, f3, f4, e5, hp.lt, hq.lt, hr.lt⟩
theorem treeC {lo : Nat} {W : World} {b1 c1 : Nat} (h : SL lo W [(.mk 21 0 ⟨#[110, 111, 116]⟩ 0 [(.mk 22 4 ⟨#[60]⟩ 0 [(.mk 18 4 ⟨#[97]⟩ 0 []), (.mk 18 8 ⟨#[98]⟩ 0 [])])]), (.mk 18 13 ⟨#[99]⟩ 0 [])] b1 c1) : W.cell? ⟨b1, 2, none⟩ = some (.string ⟨#[110, 111, 116]⟩) := by
  obtain ⟨-, -, e, -⟩ := row_cons h.row
  exact e
theorem treeX {lo : Nat} {W : World} {b1 c1 : Nat} (h : SL lo W [(.mk 21 0 ⟨#[45]⟩ 0 [(.mk 22 2 ⟨#[45]⟩ 0 [(.mk 20 2 ⟨#[49]⟩ 0 []), (.mk 20 6 ⟨#[50]⟩ 0 [])])]), (.mk 18 11 ⟨#[120]⟩ 0 [])] b1 c1) : W.cell? ⟨b1, 2, none⟩ = some (.string ⟨#[45]⟩) ∧ ∃ p p2, W.cell? ⟨b1, 4, none⟩ = some (.slice (some ⟨p, 0, none⟩) 1 p2) ∧ W.cell? ⟨p, 1, none⟩ = some (.int .i64 2) ∧ p < W.heap.size := by
  obtain ⟨-, -, e, -, ⟨kv, e1, hk⟩, -⟩ := row_cons h.row
  obtain ⟨p, p2, rfl, hp⟩ := kids_cons hk
  obtain ⟨-, e2, -⟩ := row_cons hp.row
  exact ⟨e, p, p2, e1, e2, hp.lt⟩
theorem aw_call1 (W : World) (ht : Lib.TabBelow Tryz.prog W.heap.size W "surveyor/lexer.classes" .u8 clsTab) (hev : EvAt W) : Calls Tryz.prog 13 #[.string ⟨#[112, 114, 111, 99, 32, 109, 97, 105, 110, 40, 41, 32, 123, 32, 120, 32, 58, 61, 32, 97, 91, 105, 93, 59, 32, 125]⟩] W fun e w' => ∃ b1 c1, e = .returned (.tuple #[.agg #[.int .i64 0, .int .i64 0, .string ⟨#[]⟩, .int .i64 0, .slice (some ⟨b1, 0, none⟩) 1 c1], .int .i64 0, .int .i64 0]) ∧ Below W.heap.size W w' ∧ SL W.heap.size w' [(.mk 2 0 ⟨#[109, 97, 105, 110]⟩ 0 [(.mk 3 9 ⟨#[]⟩ 0 []), (.mk 3 12 ⟨#[]⟩ 0 []), (.mk 5 12 ⟨#[]⟩ 0 []), (.mk 5 12 ⟨#[]⟩ 0 []), (.mk 6 12 ⟨#[]⟩ 0 [(.mk 9 14 ⟨#[]⟩ 0 [(.mk 3 14 ⟨#[]⟩ 0 [(.mk 18 14 ⟨#[120]⟩ 0 [])]), (.mk 16 19 ⟨#[97]⟩ 0 [(.mk 18 21 ⟨#[105]⟩ 0 [])])])])])] b1 c1 := by
  refine (pParse _ W ht hev).mono ?_
  rintro e w' ⟨k4, a4, t4, n4, o4, l4, c4, a, c, rfl, hb, h⟩
  rcases h with ⟨x, h1, rfl, rfl, h2⟩ | ⟨h1, -, -⟩
  · rw [awP1] at h1
    cases h1
    obtain ⟨kv, e, hk⟩ := synAt_mk.mp h2
    obtain ⟨b, c, rfl, hs⟩ := kids_cons hk
    simp only [Value.agg.injEq, Array.mk.injEq, List.cons.injEq, and_true] at e
    exact ⟨b, c, by rw [e.1, e.2.1, e.2.2.1, e.2.2.2.1, e.2.2.2.2]; rfl, hb, hs⟩
  · rw [awP1] at h1
    cases h1
theorem aw_call2 (W : World) (ht : Lib.TabBelow Tryz.prog W.heap.size W "surveyor/lexer.classes" .u8 clsTab) (hev : EvAt W) : Calls Tryz.prog 13 #[.string ⟨#[112, 114, 111, 99, 32, 109, 97, 105, 110, 40, 41, 32, 123, 32, 120, 32, 58, 61, 32, 97, 91, 105, 93, 32, 43, 32, 49, 59, 32, 125]⟩] W fun e w' => e = .returned (.tuple #[.agg #[.int .i64 0, .int .i64 0, .string ⟨#[]⟩, .int .i64 0, .slice none 0 0], .int .i64 24, .int .i64 4]) ∧ Below W.heap.size W w' := by
  refine (pParse _ W ht hev).mono ?_
  rintro e w' ⟨k4, a4, t4, n4, o4, l4, c4, a, c, rfl, hb, h⟩
  rcases h with ⟨x, h1, -⟩ | ⟨h1, -, h2⟩
  · rw [awP2] at h1
    cases h1
  · rw [awP2] at h1
    cases h1
    rw [h2]
    exact ⟨rfl, hb⟩
theorem aw_call3 (W : World) (ht : Lib.TabBelow Tryz.prog W.heap.size W "surveyor/lexer.classes" .u8 clsTab) (hev : EvAt W) : Calls Tryz.prog 19 #[.string ⟨#[110, 111, 116, 32, 97, 32, 60, 32, 98, 32, 111, 114, 32, 99]⟩] W fun e w' => ∃ b3 c3, e = .returned (.tuple #[.agg #[.int .i64 22, .int .i64 0, .string ⟨#[111, 114]⟩, .int .i64 0, .slice (some ⟨b3, 0, none⟩) 2 c3], .int .i64 0, .int .i64 0]) ∧ Below W.heap.size W w' ∧ SL W.heap.size w' [(.mk 21 0 ⟨#[110, 111, 116]⟩ 0 [(.mk 22 4 ⟨#[60]⟩ 0 [(.mk 18 4 ⟨#[97]⟩ 0 []), (.mk 18 8 ⟨#[98]⟩ 0 [])])]), (.mk 18 13 ⟨#[99]⟩ 0 [])] b3 c3 := by
  refine (pCond _ W ht hev).mono ?_
  rintro e w' ⟨k4, a4, t4, n4, o4, l4, c4, a, c, rfl, hb, h⟩
  rcases h with ⟨x, h1, rfl, rfl, h2⟩ | ⟨h1, -, -⟩
  · rw [awP3] at h1
    cases h1
    obtain ⟨kv, e, hk⟩ := synAt_mk.mp h2
    obtain ⟨b, c, rfl, hs⟩ := kids_cons hk
    simp only [Value.agg.injEq, Array.mk.injEq, List.cons.injEq, and_true] at e
    exact ⟨b, c, by rw [e.1, e.2.1, e.2.2.1, e.2.2.2.1, e.2.2.2.2]; rfl, hb, hs⟩
  · rw [awP3] at h1
    cases h1
theorem aw_call4 (W : World) (ht : Lib.TabBelow Tryz.prog W.heap.size W "surveyor/lexer.classes" .u8 clsTab) (hev : EvAt W) : Calls Tryz.prog 19 #[.string ⟨#[97, 32, 60, 32, 98, 32, 60, 32, 99]⟩] W fun e w' => e = .returned (.tuple #[.agg #[.int .i64 0, .int .i64 0, .string ⟨#[]⟩, .int .i64 0, .slice none 0 0], .int .i64 6, .int .i64 4]) ∧ Below W.heap.size W w' := by
  refine (pCond _ W ht hev).mono ?_
  rintro e w' ⟨k4, a4, t4, n4, o4, l4, c4, a, c, rfl, hb, h⟩
  rcases h with ⟨x, h1, -⟩ | ⟨h1, -, h2⟩
  · rw [awP4] at h1
    cases h1
  · rw [awP4] at h1
    cases h1
    rw [h2]
    exact ⟨rfl, hb⟩
theorem aw_call5 (W : World) (ht : Lib.TabBelow Tryz.prog W.heap.size W "surveyor/lexer.classes" .u8 clsTab) (hev : EvAt W) : Calls Tryz.prog 26 #[.string ⟨#[45, 40, 49, 32, 45, 32, 50, 41, 32, 42, 32, 120]⟩] W fun e w' => ∃ b5 c5, e = .returned (.tuple #[.agg #[.int .i64 22, .int .i64 0, .string ⟨#[42]⟩, .int .i64 0, .slice (some ⟨b5, 0, none⟩) 2 c5], .int .i64 0, .int .i64 0]) ∧ Below W.heap.size W w' ∧ SL W.heap.size w' [(.mk 21 0 ⟨#[45]⟩ 0 [(.mk 22 2 ⟨#[45]⟩ 0 [(.mk 20 2 ⟨#[49]⟩ 0 []), (.mk 20 6 ⟨#[50]⟩ 0 [])])]), (.mk 18 11 ⟨#[120]⟩ 0 [])] b5 c5 := by
  refine (pExpr _ W ht hev).mono ?_
  rintro e w' ⟨k4, a4, t4, n4, o4, l4, c4, a, c, rfl, hb, h⟩
  rcases h with ⟨x, h1, rfl, rfl, h2⟩ | ⟨h1, -, -⟩
  · rw [awP5] at h1
    cases h1
    obtain ⟨kv, e, hk⟩ := synAt_mk.mp h2
    obtain ⟨b, c, rfl, hs⟩ := kids_cons hk
    simp only [Value.agg.injEq, Array.mk.injEq, List.cons.injEq, and_true] at e
    exact ⟨b, c, by rw [e.1, e.2.1, e.2.2.1, e.2.2.2.1, e.2.2.2.2]; rfl, hb, hs⟩
  · rw [awP5] at h1
    cases h1
set_option maxRecDepth 20000 in
set_option maxHeartbeats 4000000 in
theorem awake09 (w : World) (ht : Lib.TabBelow Tryz.prog w.heap.size w "surveyor/lexer.classes" .u8 clsTab) (hev : EvAt w) : Calls Tryz.prog 12 #[] w fun e w' => e = .returned (.bool true) ∧ Below w.heap.size w w' := by
  have HT := Lib.hid ht; have HE := Lib.hid hev
  clear ht hev
  go_enter Tryz.func12, Tryz.ntmps12
  go_wp2_with (go_at_call 13; refine (aw_call1 _ HT.out HE.out).mono ?_; rintro e w1 ⟨b1, c1, rfl, hb, hs⟩; refine Hid.out ?_)
  have hA : Below w1.heap.size w1 (w1.alloc (Obj.cells #[.int .i64 0, .int .i64 0, .string ⟨#[]⟩, .int .i64 0, .slice (some ⟨b1, 0, none⟩) 1 c1] 25)) := (Below.refl _ _).alloc (Nat.le_refl _) _
  have B1 : Hid (Below w.heap.size w (w1.alloc (Obj.cells #[.int .i64 0, .int .i64 0, .string ⟨#[]⟩, .int .i64 0, .slice (some ⟨b1, 0, none⟩) 1 c1] 25))) := Lib.hid (Below.chain hb hA)
  have X1_1 := Lib.hid (Bx5.new w1 (.int .i64 0) (.int .i64 0) (.string ⟨#[]⟩) (.int .i64 0) (.slice (some ⟨b1, 0, none⟩) 1 c1))
  have S1_1 := Lib.hid (hs.below hA)
  clear hs
  clear hb hA
  refine Lib.hid ?_
  go_wp2_with (go_at_call 13; refine (aw_call2 _ (fun W hW => HT.out W (Below.chain B1.out hW)) (HE.out.below B1.out)).mono ?_; rintro e w2 ⟨rfl, hb⟩; refine Hid.out ?_)
  have hA : Below w2.heap.size w2 (w2.alloc (Obj.cells #[.int .i64 0, .int .i64 0, .string ⟨#[]⟩, .int .i64 0, .slice none 0 0] 25)) := (Below.refl _ _).alloc (Nat.le_refl _) _
  have B2 : Hid (Below w.heap.size w (w2.alloc (Obj.cells #[.int .i64 0, .int .i64 0, .string ⟨#[]⟩, .int .i64 0, .slice none 0 0] 25))) := Lib.hid (Below.chain (Below.chain B1.out hb) hA)
  have X1_2 := Lib.hid ((X1_1.out.below hb).below hA)
  have S1_2 := Lib.hid ((S1_1.out.below hb).below hA)
  have X2_2 := Lib.hid (Bx5.new w2 (.int .i64 0) (.int .i64 0) (.string ⟨#[]⟩) (.int .i64 0) (.slice none 0 0))
  clear hb hA
  refine Lib.hid ?_
  clear X1_1
  clear S1_1
  go_wp2_with (go_at_call 19; refine (aw_call3 _ (fun W hW => HT.out W (Below.chain B2.out hW)) (HE.out.below B2.out)).mono ?_; rintro e w3 ⟨b3, c3, rfl, hb, hs⟩; refine Hid.out ?_)
  have hA : Below w3.heap.size w3 (w3.alloc (Obj.cells #[.int .i64 22, .int .i64 0, .string ⟨#[111, 114]⟩, .int .i64 0, .slice (some ⟨b3, 0, none⟩) 2 c3] 25)) := (Below.refl _ _).alloc (Nat.le_refl _) _
  have B3 : Hid (Below w.heap.size w (w3.alloc (Obj.cells #[.int .i64 22, .int .i64 0, .string ⟨#[111, 114]⟩, .int .i64 0, .slice (some ⟨b3, 0, none⟩) 2 c3] 25))) := Lib.hid (Below.chain (Below.chain B2.out hb) hA)
  have X1_3 := Lib.hid ((X1_2.out.below hb).below hA)
  have S1_3 := Lib.hid ((S1_2.out.below hb).below hA)
  have X2_3 := Lib.hid ((X2_2.out.below hb).below hA)
  have X3_3 := Lib.hid (Bx5.new w3 (.int .i64 22) (.int .i64 0) (.string ⟨#[111, 114]⟩) (.int .i64 0) (.slice (some ⟨b3, 0, none⟩) 2 c3))
  have S3_3 := Lib.hid (hs.below hA)
  clear hs
  clear hb hA
  refine Lib.hid ?_
  clear X1_2
  clear S1_2
  clear X2_2
  go_wp2_with (go_at_call 19; refine (aw_call4 _ (fun W hW => HT.out W (Below.chain B3.out hW)) (HE.out.below B3.out)).mono ?_; rintro e w4 ⟨rfl, hb⟩; refine Hid.out ?_)
  have hA : Below w4.heap.size w4 (w4.alloc (Obj.cells #[.int .i64 0, .int .i64 0, .string ⟨#[]⟩, .int .i64 0, .slice none 0 0] 25)) := (Below.refl _ _).alloc (Nat.le_refl _) _
  have B4 : Hid (Below w.heap.size w (w4.alloc (Obj.cells #[.int .i64 0, .int .i64 0, .string ⟨#[]⟩, .int .i64 0, .slice none 0 0] 25))) := Lib.hid (Below.chain (Below.chain B3.out hb) hA)
  have X1_4 := Lib.hid ((X1_3.out.below hb).below hA)
  have S1_4 := Lib.hid ((S1_3.out.below hb).below hA)
  have X2_4 := Lib.hid ((X2_3.out.below hb).below hA)
  have X3_4 := Lib.hid ((X3_3.out.below hb).below hA)
  have S3_4 := Lib.hid ((S3_3.out.below hb).below hA)
  have X4_4 := Lib.hid (Bx5.new w4 (.int .i64 0) (.int .i64 0) (.string ⟨#[]⟩) (.int .i64 0) (.slice none 0 0))
  clear hb hA
  refine Lib.hid ?_
  clear X1_3
  clear S1_3
  clear X2_3
  clear X3_3
  clear S3_3
  go_wp2_with (go_at_call 26; refine (aw_call5 _ (fun W hW => HT.out W (Below.chain B4.out hW)) (HE.out.below B4.out)).mono ?_; rintro e w5 ⟨b5, c5, rfl, hb, hs⟩; refine Hid.out ?_)
  have hA : Below w5.heap.size w5 (w5.alloc (Obj.cells #[.int .i64 22, .int .i64 0, .string ⟨#[42]⟩, .int .i64 0, .slice (some ⟨b5, 0, none⟩) 2 c5] 25)) := (Below.refl _ _).alloc (Nat.le_refl _) _
  have B5 : Hid (Below w.heap.size w (w5.alloc (Obj.cells #[.int .i64 22, .int .i64 0, .string ⟨#[42]⟩, .int .i64 0, .slice (some ⟨b5, 0, none⟩) 2 c5] 25))) := Lib.hid (Below.chain (Below.chain B4.out hb) hA)
  have X1_5 := Lib.hid ((X1_4.out.below hb).below hA)
  have S1_5 := Lib.hid ((S1_4.out.below hb).below hA)
  have X2_5 := Lib.hid ((X2_4.out.below hb).below hA)
  have X3_5 := Lib.hid ((X3_4.out.below hb).below hA)
  have S3_5 := Lib.hid ((S3_4.out.below hb).below hA)
  have X4_5 := Lib.hid ((X4_4.out.below hb).below hA)
  have X5_5 := Lib.hid (Bx5.new w5 (.int .i64 22) (.int .i64 0) (.string ⟨#[42]⟩) (.int .i64 0) (.slice (some ⟨b5, 0, none⟩) 2 c5))
  have S5_5 := Lib.hid (hs.below hA)
  clear hs
  clear hb hA
  refine Lib.hid ?_
  clear X1_4
  clear S1_4
  clear X2_4
  clear X3_4
  clear S3_4
  clear X4_4
  obtain ⟨p, q, r, p2, q2, r2, m1, m2, m3, m4, m5, m6, m7, m8, l1, l2, l3⟩ := treeA S1_5.out
  have n1 := treeC S3_5.out
  obtain ⟨x1, s, s2, x2, x3, l4⟩ := treeX S5_5.out
  have hZ : Below (w5.alloc (Obj.cells #[.int .i64 22, .int .i64 0, .string ⟨#[42]⟩, .int .i64 0, .slice (some ⟨b5, 0, none⟩) 2 c5] 25)).heap.size (w5.alloc (Obj.cells #[.int .i64 22, .int .i64 0, .string ⟨#[42]⟩, .int .i64 0, .slice (some ⟨b5, 0, none⟩) 2 c5] 25)) ((w5.alloc (Obj.cells #[.int .i64 22, .int .i64 0, .string ⟨#[42]⟩, .int .i64 0, .slice (some ⟨b5, 0, none⟩) 2 c5] 25)).alloc (Obj.cells #[.int .i64 9, .int .i64 14, .string ⟨#[]⟩, .int .i64 0, .slice (some ⟨r, 0, none⟩) 2 r2] 25)) := (Below.refl _ _).alloc (Nat.le_refl _) _
  have BZ := Lib.hid (Below.chain B5.out hZ)
  have Y3 := X3_5.out.below hZ; have Y5 := X5_5.out.below hZ
  have YN := Bx5.new (w5.alloc (Obj.cells #[.int .i64 22, .int .i64 0, .string ⟨#[42]⟩, .int .i64 0, .slice (some ⟨b5, 0, none⟩) 2 c5] 25)) (.int .i64 9) (.int .i64 14) (.string ⟨#[]⟩) (.int .i64 0) (.slice (some ⟨r, 0, none⟩) 2 r2)
  have z8 := (hZ.cell (p := ⟨r, 5, none⟩) l3).trans m8
  have z1 := (hZ.cell (p := ⟨b3, 2, none⟩) S3_5.out.lt).trans n1
  have z2 := (hZ.cell (p := ⟨b5, 2, none⟩) S5_5.out.lt).trans x1
  have z3 := (hZ.cell (p := ⟨b5, 4, none⟩) S5_5.out.lt).trans x2
  have z4 := (hZ.cell (p := ⟨s, 1, none⟩) l4).trans x3
  obtain ⟨d10, d11, d12, d13, d14, -, -⟩ := X1_5.out
  obtain ⟨d30, d31, d32, d33, d34, -, -⟩ := X3_5.out
  obtain ⟨d50, d51, d52, d53, d54, -, -⟩ := X5_5.out
  obtain ⟨e30, e31, e32, e33, e34, -, -⟩ := Y3
  obtain ⟨e50, e51, e52, e53, e54, -, -⟩ := Y5
  obtain ⟨u0, u1, u2, u3, u4, -, -⟩ := YN
  clear hZ X1_5 X2_5 X3_5 X4_5 X5_5 S1_5 S3_5 S5_5 l1 l2 l3 l4
  go_wp2
  go_ret
  exact ⟨rfl, BZ.out⟩
end Go.Proofs.YtdibcllakkjegaaGreatDoor

set_option linter.unusedSimpArgs false
set_option linter.unusedVariables false
namespace Go.Proofs.YtdibcllakkjegaaGreatDoor
open Go Go.Proofs Go.RowKit
mutual
def eqS (o : Bool) : Syn → Syn → Bool
  | .mk k a t n ks, .mk k' a' t' n' ls => (k == k') && ((t == t') && ((n == n') && ((ks.length == ls.length) && ((!o || a == a') && eqL o ks ls))))
def eqL (o : Bool) : List Syn → List Syn → Bool
  | x :: xs, y :: ys => eqS o x y && eqL o xs ys
  | _, _ => true
end
theorem eqL_nil (o : Bool) (l : List Syn) : eqL o [] l = true := by rw [eqL]; intro x xs y ys h; cases h
mutual
def bareS : Syn → Syn
  | .mk k a t n ks => .mk k 0 t n (bareL ks)
def bareL : List Syn → List Syn
  | [] => []
  | x :: xs => bareS x :: bareL xs
end
theorem bareL_length : ∀ l : List Syn, (bareL l).length = l.length
  | [] => by rw [bareL]
  | x :: l => by rw [bareL]; simp [bareL_length l]
theorem beq_ba (a b : ByteArray) : (a == b) = true ↔ a = b := by
  rw [beq_toListBytes, Lib.bytes_beq_iff]
mutual
theorem eqS_bare : ∀ x y : Syn, eqS false x y = true ↔ bareS x = bareS y
  | .mk k a t n ks, .mk k' a' t' n' ls => by
    have ih := eqL_bare ks ls
    rw [eqS, bareS, bareS]
    simp only [Bool.and_eq_true, beq_iff_eq, beq_ba, Bool.not_false, Bool.true_or, Syn.mk.injEq, true_and]
    constructor
    · rintro ⟨h1, h2, h3, h4, h6⟩
      exact ⟨h1, h2, h3, (ih h4).1 h6⟩
    · rintro ⟨h1, h2, h3, h6⟩
      have hl : ks.length = ls.length := by rw [← bareL_length ks, ← bareL_length ls, h6]
      exact ⟨h1, h2, h3, hl, (ih hl).2 h6⟩
theorem eqL_bare : ∀ xs ys : List Syn, xs.length = ys.length → (eqL false xs ys = true ↔ bareL xs = bareL ys)
  | [], [], _ => by rw [eqL_nil]; simp
  | [], y :: ys, h => by simp at h
  | x :: xs, [], h => by simp at h
  | x :: xs, y :: ys, h => by
    have i1 := eqS_bare x y
    have i2 := eqL_bare xs ys (by simpa using h)
    rw [eqL, Bool.and_eq_true, i1, i2, bareL, bareL, List.cons.injEq]
end
theorem eqL_get {o : Bool} : ∀ xs ys : List Syn, xs.length = ys.length → (eqL o xs ys = true ↔ ∀ (i : Nat) (h1 : i < xs.length) (h2 : i < ys.length), eqS o xs[i] ys[i] = true)
  | [], [], _ => by rw [eqL_nil]; simp
  | [], y :: ys, h => by simp at h
  | x :: xs, [], h => by simp at h
  | x :: xs, y :: ys, h => by
    have i2 := eqL_get (o := o) xs ys (by simpa using h)
    rw [eqL, Bool.and_eq_true, i2]
    constructor
    · rintro ⟨h1, h2⟩ i g1 g2
      cases i with
      | zero => exact h1
      | succ i => exact h2 i (by simpa using g1) (by simpa using g2)
    · intro h1
      exact ⟨h1 0 (by simp) (by simp), fun i g1 g2 => h1 (i + 1) (by simpa using g1) (by simpa using g2)⟩
end Go.Proofs.YtdibcllakkjegaaGreatDoor

set_option linter.unusedSimpArgs false
set_option linter.unusedVariables false
namespace Go.Proofs.YtdibcllakkjegaaGreatDoor
open Go Go.Proofs Go.RowKit Go.Sort
theorem rowAt_get {lo : Nat} {W : World} : ∀ (ks : List Syn) (b o i : Nat) (h : i < ks.length), rowAt lo W ks b o → ∃ v0 v1 v2 v3 v4, W.cell? ⟨b, o + i * 5, none⟩ = some v0 ∧ W.cell? ⟨b, o + i * 5 + 1, none⟩ = some v1 ∧ W.cell? ⟨b, o + i * 5 + 2, none⟩ = some v2 ∧ W.cell? ⟨b, o + i * 5 + 3, none⟩ = some v3 ∧ W.cell? ⟨b, o + i * 5 + 4, none⟩ = some v4 ∧ synAt lo W ks[i] (.agg #[v0, v1, v2, v3, v4])
  | [], b, o, i, h, _ => by simp at h
  | x :: r, b, o, 0, _, h => by
    rw [rowAt] at h
    obtain ⟨⟨v0, v1, v2, v3, v4, c⟩, -⟩ := h
    exact ⟨v0, v1, v2, v3, v4, by simpa using c⟩
  | x :: r, b, o, i + 1, hi, h => by
    rw [rowAt] at h
    have e : o + (i + 1) * 5 = o + 5 + i * 5 := by omega
    rw [e]
    exact rowAt_get r b (o + 5) i (by simpa using hi) h.2
set_option maxRecDepth 20000 in
set_option maxHeartbeats 4000000 in
theorem equal_no (f : Bool) (k a n k' a' n' : Int) (t t' : ByteArray) (ao bo : Option Addr) (l c m d : Nat) (w : World) (h : ((k == k') && ((t == t') && ((n == n') && ((l == m) && (!f || a == a'))))) = false) :
    Calls Tryz.prog 31 #[.agg #[.int .i64 k, .int .i64 a, .string t, .int .i64 n, .slice ao l c], .agg #[.int .i64 k', .int .i64 a', .string t', .int .i64 n', .slice bo m d], .bool f] w fun e w' => e = .returned (.bool false) ∧ Below w.heap.size w w' := by
  have hA : Below w.heap.size w ((w.alloc (Obj.cells #[.int .i64 k, .int .i64 a, .string t, .int .i64 n, .slice ao l c] 25)).alloc (Obj.cells #[.int .i64 k', .int .i64 a', .string t', .int .i64 n', .slice bo m d] 25)) := ((Below.refl _ _).alloc (Nat.le_refl _) _).alloc (by simp) _
  have x1 := (Bx5.new w (.int .i64 k) (.int .i64 a) (.string t) (.int .i64 n) (.slice ao l c)).below ((Below.refl _ _).alloc (Nat.le_refl _) (Obj.cells #[.int .i64 k', .int .i64 a', .string t', .int .i64 n', .slice bo m d] 25))
  have x2 := Bx5.new (w.alloc (Obj.cells #[.int .i64 k, .int .i64 a, .string t, .int .i64 n, .slice ao l c] 25)) (.int .i64 k') (.int .i64 a') (.string t') (.int .i64 n') (.slice bo m d)
  have hz : (w.alloc (Obj.cells #[.int .i64 k, .int .i64 a, .string t, .int .i64 n, .slice ao l c] 25)).heap.size = w.heap.size + 1 := by simp
  obtain ⟨p0, p1, p2, p3, p4, -, -⟩ := x1
  obtain ⟨r0, r1, r2, r3, r4, -, -⟩ := x2
  rw [hz] at r0 r1 r2 r3 r4
  have HA := Lib.hid hA
  rw [beq_toListBytes] at h
  have hlm : (((l : Nat) : Int) != ((m : Nat) : Int)) = !(l == m) := by
    by_cases q : l = m
    · subst q; simp
    · rw [show (l == m) = false from beq_eq_false_iff_ne.2 q]
      exact bne_iff_ne.2 (by omega)
  clear hA hz
  cases q1 : (k == k') with
  | false =>
    have s1 : (k != k') = true := by rw [bne, q1]; rfl
    clear h hlm q1
    go_enter Tryz.func31, Tryz.ntmps31
    go_wp2
    go_ret
    exact ⟨rfl, HA.out⟩
  | true =>
    rw [q1, Bool.true_and] at h
    obtain rfl : k = k' := beq_iff_eq.1 q1
    cases q2 : (t.toList == t'.toList) with
    | false =>
      have s2 : (t.toList != t'.toList) = true := by rw [bne, q2]; rfl
      clear h hlm q1
      go_enter Tryz.func31, Tryz.ntmps31
      go_wp2
      go_ret
      exact ⟨rfl, HA.out⟩
    | true =>
      rw [q2, Bool.true_and] at h
      obtain rfl : t = t' := (beq_ba t t').1 (by rw [beq_toListBytes]; exact q2)
      cases q3 : (n == n') with
      | false =>
        have s3 : (n != n') = true := by rw [bne, q3]; rfl
        clear h hlm q1 q2 q3
        go_enter Tryz.func31, Tryz.ntmps31
        go_wp2
        go_ret
        exact ⟨rfl, HA.out⟩
      | true =>
        rw [q3, Bool.true_and] at h
        obtain rfl : n = n' := beq_iff_eq.1 q3
        cases q4 : (l == m) with
        | false =>
          rw [q4] at hlm
          have s4 : (((l : Nat) : Int) != ((m : Nat) : Int)) = true := hlm
          clear h hlm q1 q2 q3 q4
          go_enter Tryz.func31, Tryz.ntmps31
          go_wp2
          go_ret
          exact ⟨rfl, HA.out⟩
        | true =>
          rw [q4, Bool.true_and] at h
          obtain rfl : l = m := beq_iff_eq.1 q4
          cases f with
          | false => cases h
          | true =>
            have q5 : (a == a') = false := by simpa using h
            have s5 : (a != a') = true := by rw [bne, q5]; rfl
            clear h hlm q1 q2 q3 q4 q5
            go_enter Tryz.func31, Tryz.ntmps31
            go_wp2
            go_ret
            exact ⟨rfl, HA.out⟩
end Go.Proofs.YtdibcllakkjegaaGreatDoor
