import Derived.Test.YtdibcllakkjegaaGreatDoorCut6
import Derived.Test.YtdibcllakkjegaaGreatDoorCut5
import Derived.Test.YtdibcllakkjegaaGreatDoorCut29
import Derived.Test.YtdibcllakkjegaaGreatDoorCut28
import Derived.Test.YtdibcllakkjegaaGreatDoorCut30
import Derived.Test.YtdibcllakkjegaaGreatDoorCut31
import Derived.Test.YtdibcllakkjegaaGreatDoorCut32
import Derived.Lib.QuietBelow

set_option linter.unusedVariables false
/-
  Mathematics of tokens: texts, tokens behind each other, comments, lines, joined texts.
-/
set_option linter.unusedVariables false
namespace Go.Proofs.YtdibcllakkjegaaGreatDoor
open Go Go.Proofs Go.RowKit

theorem skN (b : Bool) : skM b [] = 0 := by cases b <;> rfl
theorem sk_app : ∀ (b : Bool) (l m : List UInt8), skM b (l ++ 10 :: m) = if skM b l < l.length then skM b l else l.length + 1 + skM false m
  | false, [], m => by
    rw [List.nil_append, skF, if_pos cls10, skN]; simp
  | true, [], m => by
    rw [List.nil_append, skT, if_pos rfl, skN]; simp
  | false, c :: l, m => by
    rw [List.cons_append, skF, skF]
    have h1 := sk_app false l m; have h2 := sk_app true l m
    by_cases c1 : cls c.toNat = 1
    · rw [if_pos c1, if_pos c1, h1, List.length_cons]
      split <;> split <;> omega
    · rw [if_neg c1, if_neg c1]
      by_cases c2 : cls c.toNat = 2
      · rw [if_pos c2, if_pos c2, h2, List.length_cons]
        split <;> split <;> omega
      · rw [if_neg c2, if_neg c2]
        simp
  | true, c :: l, m => by
    rw [List.cons_append, skT, skT]
    have h1 := sk_app false l m; have h2 := sk_app true l m
    by_cases c1 : c = 10
    · rw [if_pos c1, if_pos c1, h1, List.length_cons]
      split <;> split <;> omega
    · rw [if_neg c1, if_neg c1, h2, List.length_cons]
      split <;> split <;> omega
theorem sq_ends : ∀ (f a : Nat) (l : List UInt8), l.length < f → ((sq f a l).2.2 = 0 → (sq f a l).1 ≠ []) ∧ ((sq f a l).2.2 ≠ 0 → (sq f a l).2.1 < a + l.length)
  | 0, _, _, h => by omega
  | f + 1, a, l, h => by
    rcases sq_cases f a l with ⟨h0, h1, e⟩ | ⟨k, m, hk, hm, hne, hl, -, he, e⟩ | ⟨k, x, z, hk, hm, hx, hl, -, ht, he, -, -, e⟩
    · rw [e]; exact ⟨fun _ => by simp, fun q => absurd rfl q⟩
    · rw [e]
      have : 0 < m.length := List.length_pos_iff.2 hne
      exact ⟨fun q => absurd q he, fun _ => by show a + k < _; omega⟩
    · have hp : 0 < x.length := List.length_pos_iff.2 hx
      obtain ⟨i1, i2⟩ := sq_ends f (a + k + x.length) z (by omega)
      rw [e]
      exact ⟨fun _ => by simp, fun q => by have := i2 q; show (sq f (a + k + x.length) z).2.1 < _; omega⟩
/-- Two texts with a line feed between them. -/
theorem sq_line (m : List UInt8) : ∀ (f g a : Nat) (l : List UInt8), l.length < f → l.length + 1 + m.length < g →
    sq g a (l ++ 10 :: m) = if (sq f a l).2.2 = 0 then ((sq f a l).1.dropLast ++ (sq g (a + l.length + 1) m).1, (sq g (a + l.length + 1) m).2) else sq f a l
  | 0, _, _, _, h, _ => by omega
  | f + 1, 0, _, _, _, h => by omega
  | f + 1, g + 1, a, l, h1, h2 => by
    have hap := sk_app false l m
    rcases sq_cases f a l with ⟨h0, h3, e⟩ | ⟨k, y, hk, hm, hne, hl, -, he, e⟩ | ⟨k, x, z, hk, hm, hx, hl, -, ht, he, hex, htx, e⟩
    · rw [e, if_pos rfl]
      rw [h3, if_neg (by omega)] at hap
      have hd : (l ++ 10 :: m).drop (l.length + 1 + skM false m) = m.drop (skM false m) := by
        rw [List.drop_append, List.drop_eq_nil_of_le (by omega)]
        rw [show l.length + 1 + skM false m - l.length = skM false m + 1 by omega, List.drop_succ_cons]
        rfl
      show _ = ([] ++ _, _)
      rw [List.nil_append]
      show sq (g + 1) a (l ++ 10 :: m) = sq (g + 1) (a + l.length + 1) m
      rw [sq, sq, hap, hd]
      rw [show a + (l.length + 1 + skM false m) = a + l.length + 1 + skM false m by omega]
    · rw [e, if_neg he]
      have hmp : 0 < y.length := List.length_pos_iff.2 hne
      rw [hk, if_pos (by omega)] at hap
      have hd : (l ++ 10 :: m).drop k = y ++ 10 :: m := by rw [List.drop_append_of_le_length (by omega), hm]
      have hte : ter (y ++ 10 :: m) = ter y := by
        unfold ter
        rw [hc_app hne, wl_stop (by decide +kernel), sl_stop (by decide) m hne, List.take_append_of_le_length (wl_le y)]
      rw [sq, hap, hd, if_neg (by simp), hte, if_neg he]
    · have hp : 0 < x.length := List.length_pos_iff.2 hx
      rw [hk, if_pos (by omega)] at hap
      have hd : (l ++ 10 :: m).drop k = x ++ (z ++ 10 :: m) := by rw [List.drop_append_of_le_length (by omega), hm, List.append_assoc]
      have hne : x ++ (z ++ 10 :: m) ≠ [] := fun q => hx (List.append_eq_nil_iff.1 q).1
      have htn : tn (x ++ (z ++ 10 :: m)) = x.length := by
        rw [← List.append_assoc]
        have := hc_app (x := x) hx z
        unfold tn at ht ⊢
        rw [wl_stop (by decide +kernel), sl_stop (by decide) m (fun q => hx (List.append_eq_nil_iff.1 q).1)]
        exact ht
      obtain ⟨g1, g2⟩ := ter_app hx htn
      have ih := sq_line m f g (a + k + x.length) z (by omega) (by omega)
      rw [sq, hap, hd, if_neg hne, g1, if_pos hex, htn, g2, List.take_left' rfl, List.drop_left' rfl, ih, e]
      dsimp only
      have hfm := sq_fuel (g + 1) g (a + l.length + 1) m (by omega) (by omega)
      have hend := (sq_ends f (a + k + x.length) z (by omega)).1
      have hq : a + k + x.length + z.length + 1 = a + l.length + 1 := by omega
      split
      · rename_i h0
        rw [hq, hfm]
        obtain ⟨c, r, hr⟩ := List.exists_cons_of_ne_nil (hend h0)
        rw [hr]
        rfl
      · rfl
end Go.Proofs.YtdibcllakkjegaaGreatDoor

/-
  Trees that are equal, with their offsets or without them: mathematics.
-/
set_option linter.unusedSimpArgs false
set_option linter.unusedVariables false
namespace Go.Proofs.YtdibcllakkjegaaGreatDoor
open Go Go.Proofs Go.RowKit

mutual
theorem eqS_all : ∀ x y : Syn, eqS true x y = true ↔ x = y
  | .mk k a t n ks, .mk k' a' t' n' ls => by
    have ih := eqL_all ks ls
    rw [eqS]
    simp only [Bool.and_eq_true, beq_iff_eq, beq_ba, Bool.not_true, Bool.false_or, Syn.mk.injEq]
    constructor
    · rintro ⟨h1, h2, h3, h4, h5, h6⟩
      exact ⟨h1, h5, h2, h3, (ih h4).1 h6⟩
    · rintro ⟨h1, h5, h2, h3, h6⟩
      exact ⟨h1, h2, h3, by rw [h6], h5, (ih (by rw [h6])).2 h6⟩
theorem eqL_all : ∀ xs ys : List Syn, xs.length = ys.length → (eqL true xs ys = true ↔ xs = ys)
  | [], [], _ => by rw [eqL_nil]; simp
  | [], y :: ys, h => by simp at h
  | x :: xs, [], h => by simp at h
  | x :: xs, y :: ys, h => by
    have i1 := eqS_all x y
    have i2 := eqL_all xs ys (by simpa using h)
    rw [eqL, Bool.and_eq_true, i1, i2, List.cons.injEq]
end
end Go.Proofs.YtdibcllakkjegaaGreatDoor

/-
  surveyorref09: equal, Same, SameAll, at all trees.
-/
set_option linter.unusedSimpArgs false
set_option linter.unusedVariables false
namespace Go.Proofs.YtdibcllakkjegaaGreatDoor
open Go Go.Proofs Go.RowKit Go.Sort

/-- Same and SameAll. -/
theorem sameAll_any (x y : Syn) (lo lo2 : Nat) (v u : Value) (w : World) (hx : synAt lo w x v) (hy : synAt lo2 w y u) :
    Calls Tryz.prog 15 #[v, u] w fun e w' => e = .returned (.bool (eqS true x y)) ∧ Below w.heap.size w w' := by
  obtain ⟨k, a, t, n, ao, l, c, ks, rfl, rfl, -⟩ := hx.shape
  obtain ⟨k', a', t', n', bo, m, d, ls, rfl, rfl, -⟩ := hy.shape
  have hA : Below w.heap.size w ((w.alloc (Obj.cells #[.int .i64 k, .int .i64 a, .string t, .int .i64 n, .slice ao l c] 25)).alloc (Obj.cells #[.int .i64 k', .int .i64 a', .string t', .int .i64 n', .slice bo m d] 25)) := ((Below.refl _ _).alloc (Nat.le_refl _) _).alloc (by simp) _
  have x1 := (Bx5.new w (.int .i64 k) (.int .i64 a) (.string t) (.int .i64 n) (.slice ao l c)).below ((Below.refl _ _).alloc (Nat.le_refl _) (Obj.cells #[.int .i64 k', .int .i64 a', .string t', .int .i64 n', .slice bo m d] 25))
  have x2 := Bx5.new (w.alloc (Obj.cells #[.int .i64 k, .int .i64 a, .string t, .int .i64 n, .slice ao l c] 25)) (.int .i64 k') (.int .i64 a') (.string t') (.int .i64 n') (.slice bo m d)
  have hz : (w.alloc (Obj.cells #[.int .i64 k, .int .i64 a, .string t, .int .i64 n, .slice ao l c] 25)).heap.size = w.heap.size + 1 := by simp
  rw [hz] at x2
  obtain ⟨p0, p1, p2, p3, p4, -, -⟩ := x1
  obtain ⟨r0, r1, r2, r3, r4, -, -⟩ := x2
  have CS := equal_any true _ _ _ lo lo2 _ _ ((w.alloc (Obj.cells #[.int .i64 k, .int .i64 a, .string t, .int .i64 n, .slice ao l c] 25)).alloc (Obj.cells #[.int .i64 k', .int .i64 a', .string t', .int .i64 n', .slice bo m d] 25)) (Nat.lt_succ_self _) (synAt.keep (From.of_below hA) (Nat.le_refl _) _ _ hx) (synAt.keep (From.of_below hA) (Nat.le_refl _) _ _ hy)
  have HA := Lib.hid hA; have KS := Lib.hid CS
  clear hA hz CS hx hy
  go_enter Tryz.func15, Tryz.ntmps15
  go_wp2_with (go_at_call 31; refine (KS.out).mono ?_; rintro e w3 ⟨rfl, hb⟩; refine Hid.out ?_)
  have HB := Lib.hid (Below.chain HA.out hb)
  clear hb
  refine Lib.hid ?_
  go_wp2
  go_ret
  exact ⟨rfl, HB.out⟩
end Go.Proofs.YtdibcllakkjegaaGreatDoor

/-
  parser: what is read of a list whose end is not reached: the theorem.
-/
set_option linter.unusedSimpArgs false
set_option linter.unusedVariables false
namespace Go.Proofs.YtdibcllakkjegaaGreatDoor
open Go Go.Proofs Go.RowKit

theorem Prf.right9 {f d : Nat} (ih : ∀ w d, Prf f (mRead w d)) : Prf f (mRight d) := by
  unfold mRight
  refine Prf.bind Prf.is (fun _ => Prf.ite (Prf.bind Prf.take (fun _ => Prf.ret) (fun _ => Suf.ret)) (Prf.bind Prf.named (fun _ => Prf.next (fun _ => Prf.ite (ih _ _) (Prf.ite (ih _ _) (ih _ _))) (fun _ => Less.ite Less.load (Less.ite Less.call (Less.lvl _ _))) (fun _ => Suf.ite (suf_read _ _ _) (Suf.ite (suf_read _ _ _) (suf_read _ _ _)))) (fun _ => ?_))) (fun _ => ?_)
  · exact Suf.bind Suf.next (fun _ => Suf.ite (suf_read _ _ _) (Suf.ite (suf_read _ _ _) (suf_read _ _ _)))
  · exact Suf.ite (Suf.bind Suf.take (fun _ => Suf.ret)) (Suf.bind Suf.named (fun _ => Suf.bind Suf.next (fun _ => Suf.ite (suf_read _ _ _) (Suf.ite (suf_read _ _ _) (suf_read _ _ _)))))
theorem PfS.stmt9 {f d : Nat} (ih : ∀ w d, PfS f (mRead w d)) : PfS f (mStmt d) := by
  have K1 : Keep f mPeek := by intro l y l' e; cases e; rfl
  have M := mono_read f
  unfold mStmt
  refine PfS.bind PfS.named (fun _ => PfS.ite (PfS.next (fun _ => ?_) (fun _ => ?_)) ?_)
  · repeat' (first | with_reducible exact PfS.take | with_reducible exact PfS.deep | with_reducible exact PfS.op | with_reducible exact PfS.peek | with_reducible exact PfS.is | with_reducible exact PfS.named | with_reducible exact PfS.name | with_reducible exact PfS.need | with_reducible exact PfS.enter | with_reducible exact PfS.num | with_reducible exact PfS.ret | with_reducible exact ih _ _ | with_reducible exact PfS.before (ih _ _) | (with_reducible refine PfS.bind ?_ (fun _ => ?_)) | (with_reducible refine PfS.ite ?_ ?_) | (unfold mStore) | (unfold mCallSt) | (unfold mAssign) | (unfold mChoice) | (unfold mLoop) | (unfold mClaim) | (unfold mVars) | (unfold mArray) | (unfold mParams) | (unfold mResults) | (unfold mWhen))
  · unfold mStore mCallSt mAssign
    refine Less.ite ?_ (Less.ite ?_ ?_)
    · exact Less.keep K1 fun _ => Less.bind Less.load fun _ => Mono.bind Mono.need fun _ => Mono.bind (M _ _) fun _ => Mono.bind Mono.need fun _ => Mono.ret
    · exact Less.keep K1 fun _ => Less.bind Less.call fun _ => Mono.bind Mono.need fun _ => Mono.ret
    · exact Less.keep K1 fun _ => Less.bind Less.places fun _ => Mono.bind Mono.need fun _ => Mono.bind (M _ _) fun _ => Mono.bind Mono.need fun _ => Mono.ret
  · repeat' (first | with_reducible exact PfS.take | with_reducible exact PfS.deep | with_reducible exact PfS.op | with_reducible exact PfS.peek | with_reducible exact PfS.is | with_reducible exact PfS.named | with_reducible exact PfS.name | with_reducible exact PfS.need | with_reducible exact PfS.enter | with_reducible exact PfS.num | with_reducible exact PfS.ret | with_reducible exact ih _ _ | with_reducible exact PfS.before (ih _ _) | (with_reducible refine PfS.bind ?_ (fun _ => ?_)) | (with_reducible refine PfS.ite ?_ ?_) | (unfold mStore) | (unfold mCallSt) | (unfold mAssign) | (unfold mChoice) | (unfold mLoop) | (unfold mClaim) | (unfold mVars) | (unfold mArray) | (unfold mParams) | (unfold mResults) | (unfold mWhen))
set_option maxHeartbeats 1000000 in
/-- What is read of a list whose end is not reached does not depend on that end. -/
theorem prf_read (f : Nat) : ∀ (w : Want) (d : Nat), Prf f (mRead w d) := by
  induction f with
  | zero => intro w d V V2 S S' y _ _ _ e; unfold mRead at e; rw [pRead] at e; cases e
  | succ f ih0 =>
    have ih : ∀ w d, PfS f (mRead w d) := fun w d => ⟨ih0 w d, suf_read f w d⟩
    intro w d
    have up : ∀ {m : Rd (List Syn)}, Prf f m → (∀ l, pRead (f + 1) w d l = m f l) → Prf (f + 1) (mRead w d) := fun {m} h e V V2 S S' y h1 h2 h3 g => (e _).trans (h V V2 S S' y h1 h2 h3 ((e _).symm.trans g))
    cases w with
    | lvl i =>
      refine up ?_ (fun l => eqI_lvl (a := 0) (x := []) (w := .bare) f l)
      unfold mLvl
      exact (show PfS f _ by repeat' (first | with_reducible exact PfS.take | with_reducible exact PfS.deep | with_reducible exact PfS.op | with_reducible exact PfS.peek | with_reducible exact PfS.is | with_reducible exact PfS.named | with_reducible exact PfS.name | with_reducible exact PfS.need | with_reducible exact PfS.enter | with_reducible exact PfS.num | with_reducible exact PfS.ret | with_reducible exact ih _ _ | with_reducible exact PfS.before (ih _ _) | (with_reducible refine PfS.bind ?_ (fun _ => ?_)) | (with_reducible refine PfS.ite ?_ ?_) | (unfold mStore) | (unfold mCallSt) | (unfold mAssign) | (unfold mChoice) | (unfold mLoop) | (unfold mClaim) | (unfold mVars) | (unfold mArray) | (unfold mParams) | (unfold mResults) | (unfold mWhen))).1
    | rep i a x =>
      refine up ?_ (fun l => eqI_rep (w := .bare) f l)
      unfold mRepI
      exact (show PfS f _ by repeat' (first | with_reducible exact PfS.take | with_reducible exact PfS.deep | with_reducible exact PfS.op | with_reducible exact PfS.peek | with_reducible exact PfS.is | with_reducible exact PfS.named | with_reducible exact PfS.name | with_reducible exact PfS.need | with_reducible exact PfS.enter | with_reducible exact PfS.num | with_reducible exact PfS.ret | with_reducible exact ih _ _ | with_reducible exact PfS.before (ih _ _) | (with_reducible refine PfS.bind ?_ (fun _ => ?_)) | (with_reducible refine PfS.ite ?_ ?_) | (unfold mStore) | (unfold mCallSt) | (unfold mAssign) | (unfold mChoice) | (unfold mLoop) | (unfold mClaim) | (unfold mVars) | (unfold mArray) | (unfold mParams) | (unfold mResults) | (unfold mWhen))).1
    | bare =>
      refine up ?_ (fun l => eqI_bare (i := 0) (a := 0) (x := []) (w := .bare) f l)
      unfold mBareI
      exact (show PfS f _ by repeat' (first | with_reducible exact PfS.take | with_reducible exact PfS.deep | with_reducible exact PfS.op | with_reducible exact PfS.peek | with_reducible exact PfS.is | with_reducible exact PfS.named | with_reducible exact PfS.name | with_reducible exact PfS.need | with_reducible exact PfS.enter | with_reducible exact PfS.num | with_reducible exact PfS.ret | with_reducible exact ih _ _ | with_reducible exact PfS.before (ih _ _) | (with_reducible refine PfS.bind ?_ (fun _ => ?_)) | (with_reducible refine PfS.ite ?_ ?_) | (unfold mStore) | (unfold mCallSt) | (unfold mAssign) | (unfold mChoice) | (unfold mLoop) | (unfold mClaim) | (unfold mVars) | (unfold mArray) | (unfold mParams) | (unfold mResults) | (unfold mWhen))).1
    | place =>
      refine up ?_ (fun l => eqI_place (i := 0) (a := 0) (x := []) (w := .bare) f l)
      unfold mPlaceI
      exact (show PfS f _ by repeat' (first | with_reducible exact PfS.take | with_reducible exact PfS.deep | with_reducible exact PfS.op | with_reducible exact PfS.peek | with_reducible exact PfS.is | with_reducible exact PfS.named | with_reducible exact PfS.name | with_reducible exact PfS.need | with_reducible exact PfS.enter | with_reducible exact PfS.num | with_reducible exact PfS.ret | with_reducible exact ih _ _ | with_reducible exact PfS.before (ih _ _) | (with_reducible refine PfS.bind ?_ (fun _ => ?_)) | (with_reducible refine PfS.ite ?_ ?_) | (unfold mStore) | (unfold mCallSt) | (unfold mAssign) | (unfold mChoice) | (unfold mLoop) | (unfold mClaim) | (unfold mVars) | (unfold mArray) | (unfold mParams) | (unfold mResults) | (unfold mWhen))).1
    | param =>
      refine up ?_ (fun l => eqI_param (i := 0) (a := 0) (x := []) (w := .bare) f l)
      unfold mParamI
      exact (show PfS f _ by repeat' (first | with_reducible exact PfS.take | with_reducible exact PfS.deep | with_reducible exact PfS.op | with_reducible exact PfS.peek | with_reducible exact PfS.is | with_reducible exact PfS.named | with_reducible exact PfS.name | with_reducible exact PfS.need | with_reducible exact PfS.enter | with_reducible exact PfS.num | with_reducible exact PfS.ret | with_reducible exact ih _ _ | with_reducible exact PfS.before (ih _ _) | (with_reducible refine PfS.bind ?_ (fun _ => ?_)) | (with_reducible refine PfS.ite ?_ ?_) | (unfold mStore) | (unfold mCallSt) | (unfold mAssign) | (unfold mChoice) | (unfold mLoop) | (unfold mClaim) | (unfold mVars) | (unfold mArray) | (unfold mParams) | (unfold mResults) | (unfold mWhen))).1
    | list w =>
      refine up ?_ (fun l => eqI_list (i := 0) (a := 0) (x := []) f l)
      unfold mListI
      exact (show PfS f _ by repeat' (first | with_reducible exact PfS.take | with_reducible exact PfS.deep | with_reducible exact PfS.op | with_reducible exact PfS.peek | with_reducible exact PfS.is | with_reducible exact PfS.named | with_reducible exact PfS.name | with_reducible exact PfS.need | with_reducible exact PfS.enter | with_reducible exact PfS.num | with_reducible exact PfS.ret | with_reducible exact ih _ _ | with_reducible exact PfS.before (ih _ _) | (with_reducible refine PfS.bind ?_ (fun _ => ?_)) | (with_reducible refine PfS.ite ?_ ?_) | (unfold mStore) | (unfold mCallSt) | (unfold mAssign) | (unfold mChoice) | (unfold mLoop) | (unfold mClaim) | (unfold mVars) | (unfold mArray) | (unfold mParams) | (unfold mResults) | (unfold mWhen))).1
    | load =>
      refine up ?_ (fun l => eq_load f l)
      unfold mLoad
      exact (show PfS f _ by repeat' (first | with_reducible exact PfS.take | with_reducible exact PfS.deep | with_reducible exact PfS.op | with_reducible exact PfS.peek | with_reducible exact PfS.is | with_reducible exact PfS.named | with_reducible exact PfS.name | with_reducible exact PfS.need | with_reducible exact PfS.enter | with_reducible exact PfS.num | with_reducible exact PfS.ret | with_reducible exact ih _ _ | with_reducible exact PfS.before (ih _ _) | (with_reducible refine PfS.bind ?_ (fun _ => ?_)) | (with_reducible refine PfS.ite ?_ ?_) | (unfold mStore) | (unfold mCallSt) | (unfold mAssign) | (unfold mChoice) | (unfold mLoop) | (unfold mClaim) | (unfold mVars) | (unfold mArray) | (unfold mParams) | (unfold mResults) | (unfold mWhen))).1
    | call =>
      refine up ?_ (fun l => eq_call f l)
      unfold mCall
      exact (show PfS f _ by repeat' (first | with_reducible exact PfS.take | with_reducible exact PfS.deep | with_reducible exact PfS.op | with_reducible exact PfS.peek | with_reducible exact PfS.is | with_reducible exact PfS.named | with_reducible exact PfS.name | with_reducible exact PfS.need | with_reducible exact PfS.enter | with_reducible exact PfS.num | with_reducible exact PfS.ret | with_reducible exact ih _ _ | with_reducible exact PfS.before (ih _ _) | (with_reducible refine PfS.bind ?_ (fun _ => ?_)) | (with_reducible refine PfS.ite ?_ ?_) | (unfold mStore) | (unfold mCallSt) | (unfold mAssign) | (unfold mChoice) | (unfold mLoop) | (unfold mClaim) | (unfold mVars) | (unfold mArray) | (unfold mParams) | (unfold mResults) | (unfold mWhen))).1
    | right => exact up (Prf.right9 ih0) (fun l => eq_right f l)
    | block =>
      refine up ?_ (fun l => eq_block f l)
      unfold mBlock
      exact (show PfS f _ by repeat' (first | with_reducible exact PfS.take | with_reducible exact PfS.deep | with_reducible exact PfS.op | with_reducible exact PfS.peek | with_reducible exact PfS.is | with_reducible exact PfS.named | with_reducible exact PfS.name | with_reducible exact PfS.need | with_reducible exact PfS.enter | with_reducible exact PfS.num | with_reducible exact PfS.ret | with_reducible exact ih _ _ | with_reducible exact PfS.before (ih _ _) | (with_reducible refine PfS.bind ?_ (fun _ => ?_)) | (with_reducible refine PfS.ite ?_ ?_) | (unfold mStore) | (unfold mCallSt) | (unfold mAssign) | (unfold mChoice) | (unfold mLoop) | (unfold mClaim) | (unfold mVars) | (unfold mArray) | (unfold mParams) | (unfold mResults) | (unfold mWhen))).1
    | chain a =>
      refine up ?_ (fun l => eq_chain f l)
      unfold mChain
      exact (show PfS f _ by repeat' (first | with_reducible exact PfS.take | with_reducible exact PfS.deep | with_reducible exact PfS.op | with_reducible exact PfS.peek | with_reducible exact PfS.is | with_reducible exact PfS.named | with_reducible exact PfS.name | with_reducible exact PfS.need | with_reducible exact PfS.enter | with_reducible exact PfS.num | with_reducible exact PfS.ret | with_reducible exact ih _ _ | with_reducible exact PfS.before (ih _ _) | (with_reducible refine PfS.bind ?_ (fun _ => ?_)) | (with_reducible refine PfS.ite ?_ ?_) | (unfold mStore) | (unfold mCallSt) | (unfold mAssign) | (unfold mChoice) | (unfold mLoop) | (unfold mClaim) | (unfold mVars) | (unfold mArray) | (unfold mParams) | (unfold mResults) | (unfold mWhen))).1
    | stmts =>
      refine up ?_ (fun l => eq_stmts f l)
      unfold mStmts
      exact (show PfS f _ by repeat' (first | with_reducible exact PfS.take | with_reducible exact PfS.deep | with_reducible exact PfS.op | with_reducible exact PfS.peek | with_reducible exact PfS.is | with_reducible exact PfS.named | with_reducible exact PfS.name | with_reducible exact PfS.need | with_reducible exact PfS.enter | with_reducible exact PfS.num | with_reducible exact PfS.ret | with_reducible exact ih _ _ | with_reducible exact PfS.before (ih _ _) | (with_reducible refine PfS.bind ?_ (fun _ => ?_)) | (with_reducible refine PfS.ite ?_ ?_) | (unfold mStore) | (unfold mCallSt) | (unfold mAssign) | (unfold mChoice) | (unfold mLoop) | (unfold mClaim) | (unfold mVars) | (unfold mArray) | (unfold mParams) | (unfold mResults) | (unfold mWhen))).1
    | stmt => exact up (PfS.stmt9 ih).1 (fun l => eq_stmt f l)
    | decls =>
      refine up ?_ (fun l => eq_decls f l)
      unfold mDecls
      exact (show PfS f _ by repeat' (first | with_reducible exact PfS.take | with_reducible exact PfS.deep | with_reducible exact PfS.op | with_reducible exact PfS.peek | with_reducible exact PfS.is | with_reducible exact PfS.named | with_reducible exact PfS.name | with_reducible exact PfS.need | with_reducible exact PfS.enter | with_reducible exact PfS.num | with_reducible exact PfS.ret | with_reducible exact ih _ _ | with_reducible exact PfS.before (ih _ _) | (with_reducible refine PfS.bind ?_ (fun _ => ?_)) | (with_reducible refine PfS.ite ?_ ?_) | (unfold mStore) | (unfold mCallSt) | (unfold mAssign) | (unfold mChoice) | (unfold mLoop) | (unfold mClaim) | (unfold mVars) | (unfold mArray) | (unfold mParams) | (unfold mResults) | (unfold mWhen))).1
    | body =>
      refine up ?_ (fun l => eq_body f l)
      unfold mBody
      exact (show PfS f _ by repeat' (first | with_reducible exact PfS.take | with_reducible exact PfS.deep | with_reducible exact PfS.op | with_reducible exact PfS.peek | with_reducible exact PfS.is | with_reducible exact PfS.named | with_reducible exact PfS.name | with_reducible exact PfS.need | with_reducible exact PfS.enter | with_reducible exact PfS.num | with_reducible exact PfS.ret | with_reducible exact ih _ _ | with_reducible exact PfS.before (ih _ _) | (with_reducible refine PfS.bind ?_ (fun _ => ?_)) | (with_reducible refine PfS.ite ?_ ?_) | (unfold mStore) | (unfold mCallSt) | (unfold mAssign) | (unfold mChoice) | (unfold mLoop) | (unfold mClaim) | (unfold mVars) | (unfold mArray) | (unfold mParams) | (unfold mResults) | (unfold mWhen))).1
    | record =>
      refine up ?_ (fun l => eq_record f l)
      unfold mRecord
      exact (show PfS f _ by repeat' (first | with_reducible exact PfS.take | with_reducible exact PfS.deep | with_reducible exact PfS.op | with_reducible exact PfS.peek | with_reducible exact PfS.is | with_reducible exact PfS.named | with_reducible exact PfS.name | with_reducible exact PfS.need | with_reducible exact PfS.enter | with_reducible exact PfS.num | with_reducible exact PfS.ret | with_reducible exact ih _ _ | with_reducible exact PfS.before (ih _ _) | (with_reducible refine PfS.bind ?_ (fun _ => ?_)) | (with_reducible refine PfS.ite ?_ ?_) | (unfold mStore) | (unfold mCallSt) | (unfold mAssign) | (unfold mChoice) | (unfold mLoop) | (unfold mClaim) | (unfold mVars) | (unfold mArray) | (unfold mParams) | (unfold mResults) | (unfold mWhen))).1
    | proc =>
      refine up ?_ (fun l => eq_proc f l)
      unfold mProc
      exact (show PfS f _ by repeat' (first | with_reducible exact PfS.take | with_reducible exact PfS.deep | with_reducible exact PfS.op | with_reducible exact PfS.peek | with_reducible exact PfS.is | with_reducible exact PfS.named | with_reducible exact PfS.name | with_reducible exact PfS.need | with_reducible exact PfS.enter | with_reducible exact PfS.num | with_reducible exact PfS.ret | with_reducible exact ih _ _ | with_reducible exact PfS.before (ih _ _) | (with_reducible refine PfS.bind ?_ (fun _ => ?_)) | (with_reducible refine PfS.ite ?_ ?_) | (unfold mStore) | (unfold mCallSt) | (unfold mAssign) | (unfold mChoice) | (unfold mLoop) | (unfold mClaim) | (unfold mVars) | (unfold mArray) | (unfold mParams) | (unfold mResults) | (unfold mWhen))).1
    | program a =>
      refine up ?_ (fun l => eq_program f l)
      unfold mProgram
      exact (show PfS f _ by repeat' (first | with_reducible exact PfS.take | with_reducible exact PfS.deep | with_reducible exact PfS.op | with_reducible exact PfS.peek | with_reducible exact PfS.is | with_reducible exact PfS.named | with_reducible exact PfS.name | with_reducible exact PfS.need | with_reducible exact PfS.enter | with_reducible exact PfS.num | with_reducible exact PfS.ret | with_reducible exact ih _ _ | with_reducible exact PfS.before (ih _ _) | (with_reducible refine PfS.bind ?_ (fun _ => ?_)) | (with_reducible refine PfS.ite ?_ ?_) | (unfold mStore) | (unfold mCallSt) | (unfold mAssign) | (unfold mChoice) | (unfold mLoop) | (unfold mClaim) | (unfold mVars) | (unfold mArray) | (unfold mParams) | (unfold mResults) | (unfold mWhen))).1
    | cond =>
      intro V V2 S S' y h1 h2 h3 e
      unfold mRead at e ⊢
      rw [pRead] at e ⊢
      exact ih0 (.lvl 0) d V V2 S S' y h1 h2 h3 e
end Go.Proofs.YtdibcllakkjegaaGreatDoor

/-
  parser: procedures and records end where they end; two programs one behind the other.
-/
set_option linter.unusedSimpArgs false
set_option linter.unusedVariables false
namespace Go.Proofs.YtdibcllakkjegaaGreatDoor
open Go Go.Proofs Go.RowKit

theorem is_end {s : List UInt8} (h : s ≠ []) (a : Int) : pIs s [tE a] = false := by
  unfold pIs
  cases s with
  | nil => exact absurd rfl h
  | cons c s => rfl
section
variable {α β : Type} {f : Nat}
end
theorem before_ne {f : Nat} {s : List UInt8} {w : Want} {d : Nat} : Ne1 f (mBefore s w d) := by
  rw [before_eq]
  refine Ne1.bind neCls.is fun b => ?_
  split
  · exact neCls.ret
  · exact ne_read _ _ _
theorem shut_zero (w : Want) (d : Nat) : Shut 0 (mRead w d) := fun a => by
  refine ⟨fun y r e => ?_, fun V S' y hS e => ?_⟩ <;> (unfold mRead at e; rw [pRead] at e; cases e)
theorem shut_record (f d : Nat) : Shut f (mRead .record d) := by
  cases f with
  | zero => exact shut_zero _ _
  | succ f =>
    refine Shut.up (m := mRecord d) ?_ (fun l => eq_record f l)
    have ih : ∀ w d, PfS f (mRead w d) := fun w d => ⟨prf_read f w d, suf_read f w d⟩
    unfold mRecord
    exact Shut.bind PfS.need neCls.need fun _ => Shut.bind PfS.name neCls.name fun _ => Shut.bind PfS.need neCls.need fun _ => Shut.bind (ih _ _) (ne_read _ _ _) fun _ => Shut.last (Shut.need (by simp))
theorem shut_body (f d : Nat) : Shut f (mRead .body d) := by
  cases f with
  | zero => exact shut_zero _ _
  | succ f =>
    refine Shut.up (m := mBody d) ?_ (fun l => eq_body f l)
    have ih : ∀ w d, PfS f (mRead w d) := fun w d => ⟨prf_read f w d, suf_read f w d⟩
    unfold mBody
    exact Shut.bind PfS.enter (neCls.enter (d' := d) trivial) fun _ => Shut.bind (ih _ _) (ne_read _ _ _) fun _ => Shut.bind (ih _ _) (ne_read _ _ _) fun _ => Shut.last (Shut.need (by simp))
theorem shut_proc (f d : Nat) : Shut f (mRead .proc d) := by
  cases f with
  | zero => exact shut_zero _ _
  | succ f =>
    refine Shut.up (m := mProc d) ?_ (fun l => eq_proc f l)
    have ih : ∀ w d, PfS f (mRead w d) := fun w d => ⟨prf_read f w d, suf_read f w d⟩
    have hn : ∀ w d, Ne1 f (mRead w d) := fun w d => ne_read f w d
    have p1 : PfS f (mParams d) := by repeat' (first | with_reducible exact PfS.take | with_reducible exact PfS.deep | with_reducible exact PfS.op | with_reducible exact PfS.peek | with_reducible exact PfS.is | with_reducible exact PfS.named | with_reducible exact PfS.name | with_reducible exact PfS.need | with_reducible exact PfS.enter | with_reducible exact PfS.num | with_reducible exact PfS.ret | with_reducible exact ih _ _ | with_reducible exact PfS.before (ih _ _) | (with_reducible refine PfS.bind ?_ (fun _ => ?_)) | (with_reducible refine PfS.ite ?_ ?_) | (unfold mParams) | (unfold mResults) | (unfold mWhen))
    have p2 : PfS f (mResults d) := by repeat' (first | with_reducible exact PfS.take | with_reducible exact PfS.deep | with_reducible exact PfS.op | with_reducible exact PfS.peek | with_reducible exact PfS.is | with_reducible exact PfS.named | with_reducible exact PfS.name | with_reducible exact PfS.need | with_reducible exact PfS.enter | with_reducible exact PfS.num | with_reducible exact PfS.ret | with_reducible exact ih _ _ | with_reducible exact PfS.before (ih _ _) | (with_reducible refine PfS.bind ?_ (fun _ => ?_)) | (with_reducible refine PfS.ite ?_ ?_) | (unfold mParams) | (unfold mResults) | (unfold mWhen))
    have p3 : ∀ s, PfS f (mWhen s d) := by intro s; repeat' (first | with_reducible exact PfS.take | with_reducible exact PfS.deep | with_reducible exact PfS.op | with_reducible exact PfS.peek | with_reducible exact PfS.is | with_reducible exact PfS.named | with_reducible exact PfS.name | with_reducible exact PfS.need | with_reducible exact PfS.enter | with_reducible exact PfS.num | with_reducible exact PfS.ret | with_reducible exact ih _ _ | with_reducible exact PfS.before (ih _ _) | (with_reducible refine PfS.bind ?_ (fun _ => ?_)) | (with_reducible refine PfS.ite ?_ ?_) | (unfold mParams) | (unfold mResults) | (unfold mWhen))
    have n1 : Ne1 f (mParams d) := by unfold mParams; exact Ne1.bind neCls.need fun _ => Ne1.bind before_ne fun _ => Ne1.bind neCls.need fun _ => neCls.ret
    have n2 : Ne1 f (mResults d) := by
      unfold mResults
      refine Ne1.bind neCls.is fun b => ?_
      split
      · exact Ne1.bind neCls.take fun _ => Ne1.bind neCls.need fun _ => Ne1.bind (hn _ _) fun _ => Ne1.bind neCls.need fun _ => neCls.ret
      · exact Ne1.bind neCls.peek fun _ => neCls.ret
    have n3 : ∀ s, Ne1 f (mWhen s d) := by
      intro s
      unfold mWhen
      refine Ne1.bind neCls.peek fun _ => Ne1.bind neCls.is fun b => ?_
      split
      · exact Ne1.bind neCls.take fun _ => Ne1.bind (hn _ _) fun _ => neCls.ret
      · exact neCls.ret
    unfold mProc
    refine Shut.bind PfS.peek neCls.peek fun _ => Shut.bind PfS.is neCls.is fun b => Shut.bind (PfS.ite PfS.take PfS.peek) (by split; exact neCls.take; exact neCls.peek) fun _ => Shut.bind PfS.need neCls.need fun _ => Shut.bind PfS.name neCls.name fun _ =>
      Shut.bind p1 n1 fun _ => Shut.bind p2 n2 fun _ => Shut.bind (p3 _) (n3 _) fun _ => Shut.bind (p3 _) (n3 _) fun _ => Shut.ite (Shut.last (Shut.need (by simp))) (Shut.last (shut_body f d))
theorem prog_any : ∀ (f : Nat) (a b : Int) (d : Nat) (l : List Tk), pRead f (.program a) d l = pRead f (.program b) d l
  | 0, _, _, _, _ => by rw [pRead, pRead]
  | f + 1, a, b, d, l => by
    have ih := prog_any f a b d
    rw [eq_program, eq_program]
    unfold mProgram
    simp only [mBind, mRead, mIs, mRet, ite_rd, ok_ebind, ih]
theorem read_up {f g : Nat} {w : Want} {d : Nat} {l : List Tk} {r : List Syn × List Tk} (h : pRead f w d l = .ok r) (hg : f ≤ g) : pRead g w d l = .ok r := by
  rw [pRead_more f g w d l hg (by rw [h]; intro q; cases q), h]
/-- An item of a program, and what is behind it. -/
theorem item_on {f : Nat} {w : Want} {d : Nat} {V l1 S : List Tk} {a : Int} {x : List Syn} (hs : Shut f (mRead w d)) (hS : S ≠ []) (h : pRead f w d (V ++ [tE a]) = .ok (x, l1)) :
    ∃ V1, l1 = V1 ++ [tE a] ∧ pRead f w d (V ++ S) = .ok (x, V1 ++ S) := by
  obtain ⟨V1, rfl⟩ := end_suf (suf_read f w d _ _ _ h) (ne_read f w d _ _ _ (by simp) h)
  refine ⟨V1, rfl, ?_⟩
  by_cases hV : V1 = []
  · subst hV
    exact (hs a).2 V S x hS h
  · exact prf_read f w d V V1 [tE a] S x (by simp) hS hV h
theorem prog_join : ∀ (f : Nat) (V : List Tk) (a b : Int) (d : Nat) (S : List Tk) (xs ys : List Syn) (r : List Tk) (g : Nat), S ≠ [] → pRead f (.program b) d (V ++ [tE a]) = .ok (xs, [tE a]) → pRead g (.program b) d S = .ok (ys, r) → ∃ h, pRead h (.program b) d (V ++ S) = .ok (xs ++ ys, r)
  | 0, _, _, _, _, _, _, _, _, _, _, h, _ => by rw [pRead] at h; cases h
  | f + 1, V, a, b, d, S, xs, ys, r, g, hS, h, k => by
    have ih := prog_join f
    rw [eq_program] at h
    cases V with
    | nil =>
      have : xs = [] := by
        unfold mProgram mBind mIs at h
        simp only [List.nil_append, ok_ebind, is_end (show wRecord ≠ [] by decide), is_end (show wProc ≠ [] by decide), is_end (show wImport ≠ [] by decide), ite_rd] at h
        cases h; rfl
      subst this
      exact ⟨g, k⟩
    | cons v V =>
      have hI : ∀ s, pIs s (v :: V ++ S) = pIs s (v :: V ++ [tE a]) := fun s => rfl
      unfold mProgram at h
      have step : ∀ (w : Want), Shut f (mRead w d) → (mBind (mRead w d) fun x => mBind (mRead (.program b) d) fun y => mRet (x ++ y)) f (v :: V ++ [tE a]) = .ok (xs, [tE a]) → ∃ h x zs V1, pRead h w d (v :: V ++ S) = .ok (x, V1 ++ S) ∧ xs = x ++ zs ∧ pRead h (.program b) d (V1 ++ S) = .ok (zs ++ ys, r) := fun w hw e => by
        obtain ⟨⟨x, l1⟩, e1, e2⟩ := ebind_ok e
        obtain ⟨⟨zs, l2⟩, e3, e4⟩ := ebind_ok e2
        cases e4
        obtain ⟨V1, rfl, e5⟩ := item_on hw hS e1
        obtain ⟨h, hh⟩ := ih V1 a b d S zs ys r g hS e3 k
        exact ⟨max f h, x, zs, V1, read_up e5 (by omega), rfl, read_up hh (by omega)⟩
      by_cases c1 : pIs wRecord (v :: V ++ [tE a]) = true
      · have e : (mBind (mRead .record d) fun x => mBind (mRead (.program b) d) fun y => mRet (x ++ y)) f (v :: V ++ [tE a]) = .ok (xs, [tE a]) := by
          simpa only [mBind, mIs, ok_ebind, c1, if_true, ite_rd] using h
        obtain ⟨hN, x, zs, V1, g1, rfl, g2⟩ := step .record (shut_record f d) e
        refine ⟨hN + 1, ?_⟩
        rw [eq_program]
        unfold mProgram
        simp only [mBind, mIs, ok_ebind, hI, c1, if_true, ite_rd, mRead, g1, g2, mRet, List.append_assoc]
      · by_cases c2 : pIs wProc (v :: V ++ [tE a]) = true ∨ pIs wImport (v :: V ++ [tE a]) = true
        · have e : (mBind (mRead .proc d) fun x => mBind (mRead (.program b) d) fun y => mRet (x ++ y)) f (v :: V ++ [tE a]) = .ok (xs, [tE a]) := by
            simpa only [mBind, mIs, ok_ebind, if_neg c1, if_pos c2, ite_rd] using h
          obtain ⟨hN, x, zs, V1, g1, rfl, g2⟩ := step .proc (shut_proc f d) e
          refine ⟨hN + 1, ?_⟩
          rw [eq_program]
          unfold mProgram
          simp only [mBind, mIs, ok_ebind, hI, if_neg c1, if_pos c2, ite_rd, mRead, g1, g2, mRet, List.append_assoc]
        · exfalso
          simp only [mBind, mIs, ok_ebind, if_neg c1, if_neg c2, ite_rd, mRet] at h
          rw [Except.ok.injEq, Prod.mk.injEq] at h
          have := congrArg List.length h.2
          simp at this
end Go.Proofs.YtdibcllakkjegaaGreatDoor

/-
  Two texts with a line feed between them: their tokens.
-/
set_option linter.unusedSimpArgs false
set_option linter.unusedVariables false
namespace Go.Proofs.YtdibcllakkjegaaGreatDoor
open Go Go.Proofs Go.RowKit

def shT (d : Nat) (t : Tk) : Tk := ⟨t.k, t.t, t.a + (d : Int)⟩
theorem lines_big {a b : ByteArray} (h : a.size + b.size ≤ 65535) :
    ((scR a).2.2 ≠ 0 → scR (a ++ (⟨#[10]⟩ : ByteArray) ++ b) = ([], (scR a).2.1, (scR a).2.2)) ∧
    ((scR a).2.2 = 0 → (scR b).2.2 ≠ 0 → scR (a ++ (⟨#[10]⟩ : ByteArray) ++ b) = ([], a.size + 1 + (scR b).2.1, (scR b).2.2)) ∧
    ((scR a).2.2 = 0 → (scR b).2.2 = 0 → (scR (a ++ (⟨#[10]⟩ : ByteArray) ++ b)).2 = (0, 0) ∧ (scR (a ++ (⟨#[10]⟩ : ByteArray) ++ b)).1 = (scR a).1.dropLast ++ (scR b).1.map (shT (a.size + 1)) ∧ (scR a).1 ≠ [] ∧ (scR b).1 ≠ []) := by
  have hb : bytes (a ++ (⟨#[10]⟩ : ByteArray) ++ b) = bytes a ++ 10 :: bytes b := by
    rw [bytes_app, bytes_app, List.append_assoc]; rfl
  have hz : (a ++ (⟨#[10]⟩ : ByteArray) ++ b).size = a.size + 1 + b.size := by
    rw [← bytes_length, hb, List.length_append, List.length_cons, bytes_length, bytes_length]; omega
  have ha6 : a.size ≤ 65536 := by omega
  have hb6 : b.size ≤ 65536 := by omega
  have hc6 : (a ++ (⟨#[10]⟩ : ByteArray) ++ b).size ≤ 65536 := by omega
  obtain ⟨g, hg⟩ : ∃ g, g = (bytes a ++ 10 :: bytes b).length + 1 := ⟨_, rfl⟩
  have hgl : (bytes a).length + 1 + (bytes b).length < g := by rw [hg, List.length_append, List.length_cons]; omega
  have hC : sqR (bytes (a ++ (⟨#[10]⟩ : ByteArray) ++ b)) = sq g 0 (bytes a ++ 10 :: bytes b) := by unfold sqR; rw [hb, hg]
  have hl := sq_line (bytes b) ((bytes a).length + 1) g 0 (bytes a) (Nat.lt_succ_self _) hgl
  rw [Nat.zero_add] at hl
  have hA : sq ((bytes a).length + 1) 0 (bytes a) = sqR (bytes a) := rfl
  rw [hA] at hl
  have hsh := (sq_shift ((bytes a).length + 1) g 0 (bytes b) (by omega)).1
  rw [Nat.zero_add, sq_fuel g ((bytes b).length + 1) 0 (bytes b) (by omega) (Nat.lt_succ_self _)] at hsh
  have hB : sq ((bytes b).length + 1) 0 (bytes b) = sqR (bytes b) := rfl
  rw [hB] at hsh
  rw [← hC] at hl
  have eA := scR_sq ha6; have eB := scR_sq hb6; have eC := scR_sq hc6
  have hA0 := (sq_shift 0 _ 0 (bytes a) (Nat.lt_succ_self _)).2
  have hB0 := (sq_shift 0 _ 0 (bytes b) (Nat.lt_succ_self _)).2
  have hend := (sq_ends _ 0 (bytes a) (Nat.lt_succ_self _)).1
  have hendB := (sq_ends _ 0 (bytes b) (Nat.lt_succ_self _)).1
  rw [hB] at hendB
  rw [hA] at hA0 hend
  rw [hB] at hB0
  rw [eA, eB, eC]
  clear eA eB eC hg hC hb hz hgl
  generalize sqR (bytes (a ++ (⟨#[10]⟩ : ByteArray) ++ b)) = RC at *
  generalize sq g ((bytes a).length + 1) (bytes b) = RS at *
  generalize sqR (bytes a) = RA at *
  generalize sqR (bytes b) = RB at *
  have hba : (bytes a).length = a.size := rfl
  rw [hba] at hsh
  refine ⟨fun h0 => ?_, fun h0 h1 => ?_, fun h0 h1 => ?_⟩
  · by_cases q : RA.2.2 = 0
    · rw [if_pos q] at h0; exact absurd q h0
    · rw [if_neg q] at hl
      rw [hl, if_neg q]
  · by_cases q : RA.2.2 = 0
    · rw [if_pos q] at hl
      by_cases p : RB.2.2 = 0
      · rw [if_pos p] at h1; exact absurd p h1
      · have e2 : RC.2 = (a.size + 1 + RB.2.1, RB.2.2) := by
          rw [hl, hsh, if_neg p]
          show (RB.2.1 + (a.size + 1), RB.2.2) = _
          rw [Nat.add_comm]
        rw [e2, if_neg p, if_neg p]
    · rw [if_neg q] at h0; exact absurd h0 q
  · by_cases q : RA.2.2 = 0
    · rw [if_pos q] at hl
      by_cases p : RB.2.2 = 0
      · have e2 : RC.2 = (0, 0) := by rw [hl, hsh, if_pos p, p]
        have e1 : RC.1 = RA.1.dropLast ++ RB.1.map (fun t => (t.1, t.2.1, t.2.2 + (a.size + 1))) := by rw [hl, hsh]
        rw [if_pos q, if_pos p, if_pos (by rw [e2])]
        refine ⟨e2, ?_, fun e => hend q (List.map_eq_nil_iff.1 e), fun e => hendB p (List.map_eq_nil_iff.1 e)⟩
        show RC.1.map toTk = (RA.1.map toTk).dropLast ++ (RB.1.map toTk).map (shT (a.size + 1))
        rw [e1, List.map_append, List.map_dropLast, List.map_map, List.map_map]
        refine congrArg _ (List.map_congr_left fun t _ => ?_)
        show (⟨t.1, str t.2.1, ((t.2.2 + (a.size + 1) : Nat) : Int)⟩ : Tk) = ⟨t.1, str t.2.1, (t.2.2 : Int) + ((a.size + 1 : Nat) : Int)⟩
        rw [Int.natCast_add]
      · rw [if_neg p] at h1; exact absurd h1 p
    · rw [if_neg q] at h0; exact absurd h0 q
end Go.Proofs.YtdibcllakkjegaaGreatDoor

/-
  parser: mathematics of the laws ParserSpaces, ParserJoins, ParserParens, ParserHolds.
-/
set_option linter.unusedSimpArgs false
set_option linter.unusedVariables false
namespace Go.Proofs.YtdibcllakkjegaaGreatDoor
open Go Go.Proofs Go.RowKit

theorem sim_shift (d : Nat) : ∀ l : List Tk, Sim l (l.map (shT d))
  | [] => trivial
  | t :: l => ⟨⟨rfl, rfl⟩, sim_shift d l⟩
/-- ParserJoins. -/
theorem joins_math {a b : ByteArray} {x y : Syn} (hz : a.size + b.size ≤ 65535) (ha : pAns 0 a = .ok x) (hb : pAns 0 b = .ok y) : ∃ z, pAns 0 (a ++ (⟨#[10]⟩ : ByteArray) ++ b) = .ok z ∧ ∃ zs, kidsOf z = kidsOf x ++ zs ∧ bareL (kidsOf y) = bareL zs := by
  obtain ⟨a0, V, e, f, xs, hV, -, h1, rfl, -⟩ := pAns_ok ha
  obtain ⟨b0, U, e2, f2, ys, hU, -, g1, rfl, -⟩ := pAns_ok hb
  obtain ⟨-, -, l3⟩ := lines_big hz
  obtain ⟨j1, j2, -, -⟩ := l3 a0 b0
  have j0 : (scR (a ++ (⟨#[10]⟩ : ByteArray) ++ b)).2.2 = 0 := by rw [j1]
  rw [hV, hU, List.dropLast_concat] at j2
  obtain ⟨S, hS⟩ : ∃ S, (U ++ [tE e2]).map (shT (a.size + 1)) = S := ⟨_, rfl⟩
  have hsim : Sim (U ++ [tE e2]) S := hS ▸ sim_shift _ _
  have hSn : S ≠ [] := by rw [← hS]; simp
  have hSe : ∃ U', S = U' ++ [tE (e2 + ((a.size + 1 : Nat) : Int))] := ⟨U.map (shT (a.size + 1)), by rw [← hS, List.map_append]; rfl⟩
  rw [hS] at j2
  have q := pRead_sim f2 (entW 0 (U ++ [tE e2])) (.program 0) 0 _ _ trivial hsim
  rw [g1] at q
  cases hm : pRead f2 (.program 0) 0 S with
  | error p => rw [hm] at q; cases q
  | ok p =>
    obtain ⟨zs, r⟩ := p
    rw [hm] at q
    obtain ⟨q1, q2⟩ := (q : RL _ _)
    dsimp only at q1 q2
    have h1' : pRead f (.program 0) 0 (V ++ [tE e]) = .ok (xs, [tE e]) := (prog_any f _ _ _ _).trans h1
    obtain ⟨N, hN⟩ := prog_join f V e 0 0 S xs zs r f2 hSn h1' hm
    have hr : pIs [] r = true := by
      rw [← Sim.is [] q2]; rfl
    have hN' : pRead N (entW 0 (V ++ S)) 0 (V ++ S) = .ok (xs ++ zs, r) := (prog_any N _ _ _ _).trans hN
    refine ⟨entT 0 (V ++ S) (xs ++ zs), ?_, zs, rfl, q1⟩
    rw [pAns_tk j0, j2]
    exact pTk_of hN' hr
end Go.Proofs.YtdibcllakkjegaaGreatDoor

/-
  surveyorlaw09: words for the walks of the laws.
-/
set_option linter.unusedSimpArgs false
set_option linter.unusedVariables false
namespace Go.Proofs.YtdibcllakkjegaaGreatDoor
open Go Go.Proofs Go.RowKit Go.Sort

/-- Trees are compared in a world that has grown. -/
theorem same_re {lo lo2 : Nat} {W : World} {x y : Syn} {v u : Value} (hx : synAt lo W x v) (hy : synAt lo2 W y u) {b : Bool} (he : eqS false x y = b) (d : Nat) (os : Array Obj) :
    Calls Tryz.prog 23 #[v, u] (grow (redrawn W d) os) fun e w'' => e = .returned (.bool b) ∧ ∃ p : Regrown, w'' = grow (redrawn W p.d) p.os := by
  have hb := below_regrown W d os
  have h := same_any9 x y lo lo2 v u _ (hx.below hb) (hy.below hb)
  rw [he] at h
  exact Calls.regrown_of h
end Go.Proofs.YtdibcllakkjegaaGreatDoor

