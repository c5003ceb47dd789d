import Derived.Test.YtdibcllakkjegaaGreatDoorCut6
import Derived.Test.YtdibcllakkjegaaGreatDoorCut5
import Derived.Test.YtdibcllakkjegaaGreatDoorCut31
import Derived.Test.YtdibcllakkjegaaGreatDoorCut32
import Derived.Test.YtdibcllakkjegaaGreatDoorCut29

set_option linter.unusedVariables false
/-
  Mathematics of tokens: texts, tokens behind each other, comments, lines, joined texts.
-/
set_option linter.unusedVariables false
namespace Go.Proofs.YtdibcllakkjegaaGreatDoor
open Go Go.Proofs Go.RowKit

theorem tn_stop {x : List UInt8} (hx : x ≠ []) (h : tn x = x.length) {c : UInt8} (hw : wdB c.toNat = false) (h61 : c ≠ 61) (m : List UInt8) : tn (x ++ c :: m) = x.length := by
  unfold tn at *
  rw [wl_stop hw, sl_stop h61 m hx]
  exact h
theorem skN (b : Bool) : skM b [] = 0 := by cases b <;> rfl
theorem sk_app : ∀ (b : Bool) (l m : List UInt8), skM b (l ++ 10 :: m) = if skM b l < l.length then skM b l else l.length + 1 + skM false m
  | false, [], m => by
    rw [List.nil_append, skF, if_pos cls10, skN]; simp
  | true, [], m => by
    rw [List.nil_append, skT, if_pos rfl, skN]; simp
  | false, c :: l, m => by
    rw [List.cons_append, skF, skF]
    have h1 := sk_app false l m; have h2 := sk_app true l m
    by_cases c1 : cls c.toNat = 1
    · rw [if_pos c1, if_pos c1, h1, List.length_cons]
      split <;> split <;> omega
    · rw [if_neg c1, if_neg c1]
      by_cases c2 : cls c.toNat = 2
      · rw [if_pos c2, if_pos c2, h2, List.length_cons]
        split <;> split <;> omega
      · rw [if_neg c2, if_neg c2]
        simp
  | true, c :: l, m => by
    rw [List.cons_append, skT, skT]
    have h1 := sk_app false l m; have h2 := sk_app true l m
    by_cases c1 : c = 10
    · rw [if_pos c1, if_pos c1, h1, List.length_cons]
      split <;> split <;> omega
    · rw [if_neg c1, if_neg c1, h2, List.length_cons]
      split <;> split <;> omega
theorem sk_none {l : List UInt8} (h1 : hc l ≠ 1) (h2 : hc l ≠ 2) : skM false l = 0 := by
  cases l with
  | nil => rfl
  | cons c l => rw [hc_cons] at h1 h2; rw [skM, if_neg h1, if_neg h2]
theorem tok_hc {x : List UInt8} (hx : x ≠ []) (h : ter x = 0) : hc x ≠ 1 ∧ hc x ≠ 2 := by
  unfold ter at h
  by_cases h3 : hc x = 3
  · omega
  · rw [if_neg h3] at h
    by_cases h4 : hc x = 4
    · omega
    · rw [if_neg h4] at h
      split at h
      · cases h
      · rename_i hs
        unfold sl at hs
        split at hs
        · rename_i hs2
          have := cls_sign2 hs2.2
          omega
        · split at hs
          · rename_i h5
            have : hc x = 5 := h5.2
            omega
          · exact absurd rfl hs

theorem sq_ends : ∀ (f a : Nat) (l : List UInt8), l.length < f → ((sq f a l).2.2 = 0 → (sq f a l).1 ≠ []) ∧ ((sq f a l).2.2 ≠ 0 → (sq f a l).2.1 < a + l.length)
  | 0, _, _, h => by omega
  | f + 1, a, l, h => by
    rcases sq_cases f a l with ⟨h0, h1, e⟩ | ⟨k, m, hk, hm, hne, hl, -, he, e⟩ | ⟨k, x, z, hk, hm, hx, hl, -, ht, he, -, -, e⟩
    · rw [e]; exact ⟨fun _ => by simp, fun q => absurd rfl q⟩
    · rw [e]
      have : 0 < m.length := List.length_pos_iff.2 hne
      exact ⟨fun q => absurd q he, fun _ => by show a + k < _; omega⟩
    · have hp : 0 < x.length := List.length_pos_iff.2 hx
      obtain ⟨i1, i2⟩ := sq_ends f (a + k + x.length) z (by omega)
      rw [e]
      exact ⟨fun _ => by simp, fun q => by have := i2 q; show (sq f (a + k + x.length) z).2.1 < _; omega⟩
/-- Two texts with a line feed between them. -/
theorem sq_line (m : List UInt8) : ∀ (f g a : Nat) (l : List UInt8), l.length < f → l.length + 1 + m.length < g →
    sq g a (l ++ 10 :: m) = if (sq f a l).2.2 = 0 then ((sq f a l).1.dropLast ++ (sq g (a + l.length + 1) m).1, (sq g (a + l.length + 1) m).2) else sq f a l
  | 0, _, _, _, h, _ => by omega
  | f + 1, 0, _, _, _, h => by omega
  | f + 1, g + 1, a, l, h1, h2 => by
    have hap := sk_app false l m
    rcases sq_cases f a l with ⟨h0, h3, e⟩ | ⟨k, y, hk, hm, hne, hl, -, he, e⟩ | ⟨k, x, z, hk, hm, hx, hl, -, ht, he, hex, htx, e⟩
    · rw [e, if_pos rfl]
      rw [h3, if_neg (by omega)] at hap
      have hd : (l ++ 10 :: m).drop (l.length + 1 + skM false m) = m.drop (skM false m) := by
        rw [List.drop_append, List.drop_eq_nil_of_le (by omega)]
        rw [show l.length + 1 + skM false m - l.length = skM false m + 1 by omega, List.drop_succ_cons]
        rfl
      show _ = ([] ++ _, _)
      rw [List.nil_append]
      show sq (g + 1) a (l ++ 10 :: m) = sq (g + 1) (a + l.length + 1) m
      rw [sq, sq, hap, hd]
      rw [show a + (l.length + 1 + skM false m) = a + l.length + 1 + skM false m by omega]
    · rw [e, if_neg he]
      have hmp : 0 < y.length := List.length_pos_iff.2 hne
      rw [hk, if_pos (by omega)] at hap
      have hd : (l ++ 10 :: m).drop k = y ++ 10 :: m := by rw [List.drop_append_of_le_length (by omega), hm]
      have hte : ter (y ++ 10 :: m) = ter y := by
        unfold ter
        rw [hc_app hne, wl_stop (by decide +kernel), sl_stop (by decide) m hne, List.take_append_of_le_length (wl_le y)]
      rw [sq, hap, hd, if_neg (by simp), hte, if_neg he]
    · have hp : 0 < x.length := List.length_pos_iff.2 hx
      rw [hk, if_pos (by omega)] at hap
      have hd : (l ++ 10 :: m).drop k = x ++ (z ++ 10 :: m) := by rw [List.drop_append_of_le_length (by omega), hm, List.append_assoc]
      have hne : x ++ (z ++ 10 :: m) ≠ [] := fun q => hx (List.append_eq_nil_iff.1 q).1
      have htn : tn (x ++ (z ++ 10 :: m)) = x.length := by
        rw [← List.append_assoc]
        have := hc_app (x := x) hx z
        unfold tn at ht ⊢
        rw [wl_stop (by decide +kernel), sl_stop (by decide) m (fun q => hx (List.append_eq_nil_iff.1 q).1)]
        exact ht
      obtain ⟨g1, g2⟩ := ter_app hx htn
      have ih := sq_line m f g (a + k + x.length) z (by omega) (by omega)
      rw [sq, hap, hd, if_neg hne, g1, if_pos hex, htn, g2, List.take_left' rfl, List.drop_left' rfl, ih, e]
      dsimp only
      have hfm := sq_fuel (g + 1) g (a + l.length + 1) m (by omega) (by omega)
      have hend := (sq_ends f (a + k + x.length) z (by omega)).1
      have hq : a + k + x.length + z.length + 1 = a + l.length + 1 := by omega
      split
      · rename_i h0
        rw [hq, hfm]
        obtain ⟨c, r, hr⟩ := List.exists_cons_of_ne_nil (hend h0)
        rw [hr]
        rfl
      · rfl
theorem sl_hd (c : UInt8) (r : List UInt8) : sl (c :: r) = if lsB [c, r.getD 0 0] = true then 2 else if cls c.toNat = 5 then 1 else 0 := by
  unfold sl
  cases r with
  | nil =>
    rw [lsB_ne (by decide)]
    simp
  | cons d r => simp
theorem sq_tok {f a k : Nat} {l x z : List UInt8} (hk : skM false l = k) (hm : l.drop k = x ++ z) (hx : x ≠ []) (ht : tn (x ++ z) = x.length) (he : ter x = 0) :
    sq (f + 1) a l = ((tkd x, x, a + k) :: (sq f (a + k + x.length) z).1, (sq f (a + k + x.length) z).2) := by
  have hne : x ++ z ≠ [] := fun q => hx (List.append_eq_nil_iff.1 q).1
  obtain ⟨h1, h2⟩ := ter_app hx ht
  rw [sq, hk, hm, if_neg hne, h1, if_pos he, ht, h2, List.take_left' rfl, List.drop_left' rfl]
end Go.Proofs.YtdibcllakkjegaaGreatDoor

/-
  parser: what is read of a list whose end is not reached: the theorem.
-/
set_option linter.unusedSimpArgs false
set_option linter.unusedVariables false
namespace Go.Proofs.YtdibcllakkjegaaGreatDoor
open Go Go.Proofs Go.RowKit

theorem Prf.right9 {f d : Nat} (ih : ∀ w d, Prf f (mRead w d)) : Prf f (mRight d) := by
  unfold mRight
  refine Prf.bind Prf.is (fun _ => Prf.ite (Prf.bind Prf.take (fun _ => Prf.ret) (fun _ => Suf.ret)) (Prf.bind Prf.named (fun _ => Prf.next (fun _ => Prf.ite (ih _ _) (Prf.ite (ih _ _) (ih _ _))) (fun _ => Less.ite Less.load (Less.ite Less.call (Less.lvl _ _))) (fun _ => Suf.ite (suf_read _ _ _) (Suf.ite (suf_read _ _ _) (suf_read _ _ _)))) (fun _ => ?_))) (fun _ => ?_)
  · exact Suf.bind Suf.next (fun _ => Suf.ite (suf_read _ _ _) (Suf.ite (suf_read _ _ _) (suf_read _ _ _)))
  · exact Suf.ite (Suf.bind Suf.take (fun _ => Suf.ret)) (Suf.bind Suf.named (fun _ => Suf.bind Suf.next (fun _ => Suf.ite (suf_read _ _ _) (Suf.ite (suf_read _ _ _) (suf_read _ _ _)))))
theorem PfS.stmt9 {f d : Nat} (ih : ∀ w d, PfS f (mRead w d)) : PfS f (mStmt d) := by
  have K1 : Keep f mPeek := by intro l y l' e; cases e; rfl
  have M := mono_read f
  unfold mStmt
  refine PfS.bind PfS.named (fun _ => PfS.ite (PfS.next (fun _ => ?_) (fun _ => ?_)) ?_)
  · repeat' (first | with_reducible exact PfS.take | with_reducible exact PfS.deep | with_reducible exact PfS.op | with_reducible exact PfS.peek | with_reducible exact PfS.is | with_reducible exact PfS.named | with_reducible exact PfS.name | with_reducible exact PfS.need | with_reducible exact PfS.enter | with_reducible exact PfS.num | with_reducible exact PfS.ret | with_reducible exact ih _ _ | with_reducible exact PfS.before (ih _ _) | (with_reducible refine PfS.bind ?_ (fun _ => ?_)) | (with_reducible refine PfS.ite ?_ ?_) | (unfold mStore) | (unfold mCallSt) | (unfold mAssign) | (unfold mChoice) | (unfold mLoop) | (unfold mClaim) | (unfold mVars) | (unfold mArray) | (unfold mParams) | (unfold mResults) | (unfold mWhen))
  · unfold mStore mCallSt mAssign
    refine Less.ite ?_ (Less.ite ?_ ?_)
    · exact Less.keep K1 fun _ => Less.bind Less.load fun _ => Mono.bind Mono.need fun _ => Mono.bind (M _ _) fun _ => Mono.bind Mono.need fun _ => Mono.ret
    · exact Less.keep K1 fun _ => Less.bind Less.call fun _ => Mono.bind Mono.need fun _ => Mono.ret
    · exact Less.keep K1 fun _ => Less.bind Less.places fun _ => Mono.bind Mono.need fun _ => Mono.bind (M _ _) fun _ => Mono.bind Mono.need fun _ => Mono.ret
  · repeat' (first | with_reducible exact PfS.take | with_reducible exact PfS.deep | with_reducible exact PfS.op | with_reducible exact PfS.peek | with_reducible exact PfS.is | with_reducible exact PfS.named | with_reducible exact PfS.name | with_reducible exact PfS.need | with_reducible exact PfS.enter | with_reducible exact PfS.num | with_reducible exact PfS.ret | with_reducible exact ih _ _ | with_reducible exact PfS.before (ih _ _) | (with_reducible refine PfS.bind ?_ (fun _ => ?_)) | (with_reducible refine PfS.ite ?_ ?_) | (unfold mStore) | (unfold mCallSt) | (unfold mAssign) | (unfold mChoice) | (unfold mLoop) | (unfold mClaim) | (unfold mVars) | (unfold mArray) | (unfold mParams) | (unfold mResults) | (unfold mWhen))
set_option maxHeartbeats 1000000 in
/-- What is read of a list whose end is not reached does not depend on that end. -/
theorem prf_read (f : Nat) : ∀ (w : Want) (d : Nat), Prf f (mRead w d) := by
  induction f with
  | zero => intro w d V V2 S S' y _ _ _ e; unfold mRead at e; rw [pRead] at e; cases e
  | succ f ih0 =>
    have ih : ∀ w d, PfS f (mRead w d) := fun w d => ⟨ih0 w d, suf_read f w d⟩
    intro w d
    have up : ∀ {m : Rd (List Syn)}, Prf f m → (∀ l, pRead (f + 1) w d l = m f l) → Prf (f + 1) (mRead w d) := fun {m} h e V V2 S S' y h1 h2 h3 g => (e _).trans (h V V2 S S' y h1 h2 h3 ((e _).symm.trans g))
    cases w with
    | lvl i =>
      refine up ?_ (fun l => eqI_lvl (a := 0) (x := []) (w := .bare) f l)
      unfold mLvl
      exact (show PfS f _ by repeat' (first | with_reducible exact PfS.take | with_reducible exact PfS.deep | with_reducible exact PfS.op | with_reducible exact PfS.peek | with_reducible exact PfS.is | with_reducible exact PfS.named | with_reducible exact PfS.name | with_reducible exact PfS.need | with_reducible exact PfS.enter | with_reducible exact PfS.num | with_reducible exact PfS.ret | with_reducible exact ih _ _ | with_reducible exact PfS.before (ih _ _) | (with_reducible refine PfS.bind ?_ (fun _ => ?_)) | (with_reducible refine PfS.ite ?_ ?_) | (unfold mStore) | (unfold mCallSt) | (unfold mAssign) | (unfold mChoice) | (unfold mLoop) | (unfold mClaim) | (unfold mVars) | (unfold mArray) | (unfold mParams) | (unfold mResults) | (unfold mWhen))).1
    | rep i a x =>
      refine up ?_ (fun l => eqI_rep (w := .bare) f l)
      unfold mRepI
      exact (show PfS f _ by repeat' (first | with_reducible exact PfS.take | with_reducible exact PfS.deep | with_reducible exact PfS.op | with_reducible exact PfS.peek | with_reducible exact PfS.is | with_reducible exact PfS.named | with_reducible exact PfS.name | with_reducible exact PfS.need | with_reducible exact PfS.enter | with_reducible exact PfS.num | with_reducible exact PfS.ret | with_reducible exact ih _ _ | with_reducible exact PfS.before (ih _ _) | (with_reducible refine PfS.bind ?_ (fun _ => ?_)) | (with_reducible refine PfS.ite ?_ ?_) | (unfold mStore) | (unfold mCallSt) | (unfold mAssign) | (unfold mChoice) | (unfold mLoop) | (unfold mClaim) | (unfold mVars) | (unfold mArray) | (unfold mParams) | (unfold mResults) | (unfold mWhen))).1
    | bare =>
      refine up ?_ (fun l => eqI_bare (i := 0) (a := 0) (x := []) (w := .bare) f l)
      unfold mBareI
      exact (show PfS f _ by repeat' (first | with_reducible exact PfS.take | with_reducible exact PfS.deep | with_reducible exact PfS.op | with_reducible exact PfS.peek | with_reducible exact PfS.is | with_reducible exact PfS.named | with_reducible exact PfS.name | with_reducible exact PfS.need | with_reducible exact PfS.enter | with_reducible exact PfS.num | with_reducible exact PfS.ret | with_reducible exact ih _ _ | with_reducible exact PfS.before (ih _ _) | (with_reducible refine PfS.bind ?_ (fun _ => ?_)) | (with_reducible refine PfS.ite ?_ ?_) | (unfold mStore) | (unfold mCallSt) | (unfold mAssign) | (unfold mChoice) | (unfold mLoop) | (unfold mClaim) | (unfold mVars) | (unfold mArray) | (unfold mParams) | (unfold mResults) | (unfold mWhen))).1
    | place =>
      refine up ?_ (fun l => eqI_place (i := 0) (a := 0) (x := []) (w := .bare) f l)
      unfold mPlaceI
      exact (show PfS f _ by repeat' (first | with_reducible exact PfS.take | with_reducible exact PfS.deep | with_reducible exact PfS.op | with_reducible exact PfS.peek | with_reducible exact PfS.is | with_reducible exact PfS.named | with_reducible exact PfS.name | with_reducible exact PfS.need | with_reducible exact PfS.enter | with_reducible exact PfS.num | with_reducible exact PfS.ret | with_reducible exact ih _ _ | with_reducible exact PfS.before (ih _ _) | (with_reducible refine PfS.bind ?_ (fun _ => ?_)) | (with_reducible refine PfS.ite ?_ ?_) | (unfold mStore) | (unfold mCallSt) | (unfold mAssign) | (unfold mChoice) | (unfold mLoop) | (unfold mClaim) | (unfold mVars) | (unfold mArray) | (unfold mParams) | (unfold mResults) | (unfold mWhen))).1
    | param =>
      refine up ?_ (fun l => eqI_param (i := 0) (a := 0) (x := []) (w := .bare) f l)
      unfold mParamI
      exact (show PfS f _ by repeat' (first | with_reducible exact PfS.take | with_reducible exact PfS.deep | with_reducible exact PfS.op | with_reducible exact PfS.peek | with_reducible exact PfS.is | with_reducible exact PfS.named | with_reducible exact PfS.name | with_reducible exact PfS.need | with_reducible exact PfS.enter | with_reducible exact PfS.num | with_reducible exact PfS.ret | with_reducible exact ih _ _ | with_reducible exact PfS.before (ih _ _) | (with_reducible refine PfS.bind ?_ (fun _ => ?_)) | (with_reducible refine PfS.ite ?_ ?_) | (unfold mStore) | (unfold mCallSt) | (unfold mAssign) | (unfold mChoice) | (unfold mLoop) | (unfold mClaim) | (unfold mVars) | (unfold mArray) | (unfold mParams) | (unfold mResults) | (unfold mWhen))).1
    | list w =>
      refine up ?_ (fun l => eqI_list (i := 0) (a := 0) (x := []) f l)
      unfold mListI
      exact (show PfS f _ by repeat' (first | with_reducible exact PfS.take | with_reducible exact PfS.deep | with_reducible exact PfS.op | with_reducible exact PfS.peek | with_reducible exact PfS.is | with_reducible exact PfS.named | with_reducible exact PfS.name | with_reducible exact PfS.need | with_reducible exact PfS.enter | with_reducible exact PfS.num | with_reducible exact PfS.ret | with_reducible exact ih _ _ | with_reducible exact PfS.before (ih _ _) | (with_reducible refine PfS.bind ?_ (fun _ => ?_)) | (with_reducible refine PfS.ite ?_ ?_) | (unfold mStore) | (unfold mCallSt) | (unfold mAssign) | (unfold mChoice) | (unfold mLoop) | (unfold mClaim) | (unfold mVars) | (unfold mArray) | (unfold mParams) | (unfold mResults) | (unfold mWhen))).1
    | load =>
      refine up ?_ (fun l => eq_load f l)
      unfold mLoad
      exact (show PfS f _ by repeat' (first | with_reducible exact PfS.take | with_reducible exact PfS.deep | with_reducible exact PfS.op | with_reducible exact PfS.peek | with_reducible exact PfS.is | with_reducible exact PfS.named | with_reducible exact PfS.name | with_reducible exact PfS.need | with_reducible exact PfS.enter | with_reducible exact PfS.num | with_reducible exact PfS.ret | with_reducible exact ih _ _ | with_reducible exact PfS.before (ih _ _) | (with_reducible refine PfS.bind ?_ (fun _ => ?_)) | (with_reducible refine PfS.ite ?_ ?_) | (unfold mStore) | (unfold mCallSt) | (unfold mAssign) | (unfold mChoice) | (unfold mLoop) | (unfold mClaim) | (unfold mVars) | (unfold mArray) | (unfold mParams) | (unfold mResults) | (unfold mWhen))).1
    | call =>
      refine up ?_ (fun l => eq_call f l)
      unfold mCall
      exact (show PfS f _ by repeat' (first | with_reducible exact PfS.take | with_reducible exact PfS.deep | with_reducible exact PfS.op | with_reducible exact PfS.peek | with_reducible exact PfS.is | with_reducible exact PfS.named | with_reducible exact PfS.name | with_reducible exact PfS.need | with_reducible exact PfS.enter | with_reducible exact PfS.num | with_reducible exact PfS.ret | with_reducible exact ih _ _ | with_reducible exact PfS.before (ih _ _) | (with_reducible refine PfS.bind ?_ (fun _ => ?_)) | (with_reducible refine PfS.ite ?_ ?_) | (unfold mStore) | (unfold mCallSt) | (unfold mAssign) | (unfold mChoice) | (unfold mLoop) | (unfold mClaim) | (unfold mVars) | (unfold mArray) | (unfold mParams) | (unfold mResults) | (unfold mWhen))).1
    | right => exact up (Prf.right9 ih0) (fun l => eq_right f l)
    | block =>
      refine up ?_ (fun l => eq_block f l)
      unfold mBlock
      exact (show PfS f _ by repeat' (first | with_reducible exact PfS.take | with_reducible exact PfS.deep | with_reducible exact PfS.op | with_reducible exact PfS.peek | with_reducible exact PfS.is | with_reducible exact PfS.named | with_reducible exact PfS.name | with_reducible exact PfS.need | with_reducible exact PfS.enter | with_reducible exact PfS.num | with_reducible exact PfS.ret | with_reducible exact ih _ _ | with_reducible exact PfS.before (ih _ _) | (with_reducible refine PfS.bind ?_ (fun _ => ?_)) | (with_reducible refine PfS.ite ?_ ?_) | (unfold mStore) | (unfold mCallSt) | (unfold mAssign) | (unfold mChoice) | (unfold mLoop) | (unfold mClaim) | (unfold mVars) | (unfold mArray) | (unfold mParams) | (unfold mResults) | (unfold mWhen))).1
    | chain a =>
      refine up ?_ (fun l => eq_chain f l)
      unfold mChain
      exact (show PfS f _ by repeat' (first | with_reducible exact PfS.take | with_reducible exact PfS.deep | with_reducible exact PfS.op | with_reducible exact PfS.peek | with_reducible exact PfS.is | with_reducible exact PfS.named | with_reducible exact PfS.name | with_reducible exact PfS.need | with_reducible exact PfS.enter | with_reducible exact PfS.num | with_reducible exact PfS.ret | with_reducible exact ih _ _ | with_reducible exact PfS.before (ih _ _) | (with_reducible refine PfS.bind ?_ (fun _ => ?_)) | (with_reducible refine PfS.ite ?_ ?_) | (unfold mStore) | (unfold mCallSt) | (unfold mAssign) | (unfold mChoice) | (unfold mLoop) | (unfold mClaim) | (unfold mVars) | (unfold mArray) | (unfold mParams) | (unfold mResults) | (unfold mWhen))).1
    | stmts =>
      refine up ?_ (fun l => eq_stmts f l)
      unfold mStmts
      exact (show PfS f _ by repeat' (first | with_reducible exact PfS.take | with_reducible exact PfS.deep | with_reducible exact PfS.op | with_reducible exact PfS.peek | with_reducible exact PfS.is | with_reducible exact PfS.named | with_reducible exact PfS.name | with_reducible exact PfS.need | with_reducible exact PfS.enter | with_reducible exact PfS.num | with_reducible exact PfS.ret | with_reducible exact ih _ _ | with_reducible exact PfS.before (ih _ _) | (with_reducible refine PfS.bind ?_ (fun _ => ?_)) | (with_reducible refine PfS.ite ?_ ?_) | (unfold mStore) | (unfold mCallSt) | (unfold mAssign) | (unfold mChoice) | (unfold mLoop) | (unfold mClaim) | (unfold mVars) | (unfold mArray) | (unfold mParams) | (unfold mResults) | (unfold mWhen))).1
    | stmt => exact up (PfS.stmt9 ih).1 (fun l => eq_stmt f l)
    | decls =>
      refine up ?_ (fun l => eq_decls f l)
      unfold mDecls
      exact (show PfS f _ by repeat' (first | with_reducible exact PfS.take | with_reducible exact PfS.deep | with_reducible exact PfS.op | with_reducible exact PfS.peek | with_reducible exact PfS.is | with_reducible exact PfS.named | with_reducible exact PfS.name | with_reducible exact PfS.need | with_reducible exact PfS.enter | with_reducible exact PfS.num | with_reducible exact PfS.ret | with_reducible exact ih _ _ | with_reducible exact PfS.before (ih _ _) | (with_reducible refine PfS.bind ?_ (fun _ => ?_)) | (with_reducible refine PfS.ite ?_ ?_) | (unfold mStore) | (unfold mCallSt) | (unfold mAssign) | (unfold mChoice) | (unfold mLoop) | (unfold mClaim) | (unfold mVars) | (unfold mArray) | (unfold mParams) | (unfold mResults) | (unfold mWhen))).1
    | body =>
      refine up ?_ (fun l => eq_body f l)
      unfold mBody
      exact (show PfS f _ by repeat' (first | with_reducible exact PfS.take | with_reducible exact PfS.deep | with_reducible exact PfS.op | with_reducible exact PfS.peek | with_reducible exact PfS.is | with_reducible exact PfS.named | with_reducible exact PfS.name | with_reducible exact PfS.need | with_reducible exact PfS.enter | with_reducible exact PfS.num | with_reducible exact PfS.ret | with_reducible exact ih _ _ | with_reducible exact PfS.before (ih _ _) | (with_reducible refine PfS.bind ?_ (fun _ => ?_)) | (with_reducible refine PfS.ite ?_ ?_) | (unfold mStore) | (unfold mCallSt) | (unfold mAssign) | (unfold mChoice) | (unfold mLoop) | (unfold mClaim) | (unfold mVars) | (unfold mArray) | (unfold mParams) | (unfold mResults) | (unfold mWhen))).1
    | record =>
      refine up ?_ (fun l => eq_record f l)
      unfold mRecord
      exact (show PfS f _ by repeat' (first | with_reducible exact PfS.take | with_reducible exact PfS.deep | with_reducible exact PfS.op | with_reducible exact PfS.peek | with_reducible exact PfS.is | with_reducible exact PfS.named | with_reducible exact PfS.name | with_reducible exact PfS.need | with_reducible exact PfS.enter | with_reducible exact PfS.num | with_reducible exact PfS.ret | with_reducible exact ih _ _ | with_reducible exact PfS.before (ih _ _) | (with_reducible refine PfS.bind ?_ (fun _ => ?_)) | (with_reducible refine PfS.ite ?_ ?_) | (unfold mStore) | (unfold mCallSt) | (unfold mAssign) | (unfold mChoice) | (unfold mLoop) | (unfold mClaim) | (unfold mVars) | (unfold mArray) | (unfold mParams) | (unfold mResults) | (unfold mWhen))).1
    | proc =>
      refine up ?_ (fun l => eq_proc f l)
      unfold mProc
      exact (show PfS f _ by repeat' (first | with_reducible exact PfS.take | with_reducible exact PfS.deep | with_reducible exact PfS.op | with_reducible exact PfS.peek | with_reducible exact PfS.is | with_reducible exact PfS.named | with_reducible exact PfS.name | with_reducible exact PfS.need | with_reducible exact PfS.enter | with_reducible exact PfS.num | with_reducible exact PfS.ret | with_reducible exact ih _ _ | with_reducible exact PfS.before (ih _ _) | (with_reducible refine PfS.bind ?_ (fun _ => ?_)) | (with_reducible refine PfS.ite ?_ ?_) | (unfold mStore) | (unfold mCallSt) | (unfold mAssign) | (unfold mChoice) | (unfold mLoop) | (unfold mClaim) | (unfold mVars) | (unfold mArray) | (unfold mParams) | (unfold mResults) | (unfold mWhen))).1
    | program a =>
      refine up ?_ (fun l => eq_program f l)
      unfold mProgram
      exact (show PfS f _ by repeat' (first | with_reducible exact PfS.take | with_reducible exact PfS.deep | with_reducible exact PfS.op | with_reducible exact PfS.peek | with_reducible exact PfS.is | with_reducible exact PfS.named | with_reducible exact PfS.name | with_reducible exact PfS.need | with_reducible exact PfS.enter | with_reducible exact PfS.num | with_reducible exact PfS.ret | with_reducible exact ih _ _ | with_reducible exact PfS.before (ih _ _) | (with_reducible refine PfS.bind ?_ (fun _ => ?_)) | (with_reducible refine PfS.ite ?_ ?_) | (unfold mStore) | (unfold mCallSt) | (unfold mAssign) | (unfold mChoice) | (unfold mLoop) | (unfold mClaim) | (unfold mVars) | (unfold mArray) | (unfold mParams) | (unfold mResults) | (unfold mWhen))).1
    | cond =>
      intro V V2 S S' y h1 h2 h3 e
      unfold mRead at e ⊢
      rw [pRead] at e ⊢
      exact ih0 (.lvl 0) d V V2 S S' y h1 h2 h3 e
end Go.Proofs.YtdibcllakkjegaaGreatDoor

/-
  parser: one induction over all that is read, for relations between readers.
-/
set_option linter.unusedSimpArgs false
set_option linter.unusedVariables false
namespace Go.Proofs.YtdibcllakkjegaaGreatDoor
open Go Go.Proofs Go.RowKit

/-- Deeper down the same is read, or the levels are too many. -/
def Dp {α : Type} (f : Nat) (m m' : Rd α) : Prop := ∀ l r, m f l = .ok r → m' f l = .ok r ∨ ∃ a, m' f l = .error (a, 12)
theorem dpCls : Cls (fun _ f m m' => Dp f m m') (fun _ _ => True) where
  bind {_ _ f m m' k k'} h g := fun l r e => by
    obtain ⟨⟨y, l1⟩, e1, e2⟩ := ebind_ok e
    rcases h l _ e1 with h1 | ⟨a, h1⟩
    · have : mBind m' k' f l = k' y f l1 := by show (m' f l >>= _) = _; rw [h1]; rfl
      rw [this]
      exact g y l1 r e2
    · right; exact ⟨a, by show (m' f l >>= _) = _; rw [h1]; rfl⟩
  ite h g := by split <;> assumption
  ret := fun _ _ e => .inl e
  peek := fun _ _ e => .inl e
  take := fun _ _ e => .inl e
  is := fun _ _ e => .inl e
  op := fun _ _ e => .inl e
  next := fun _ _ e => .inl e
  named := fun _ _ e => .inl e
  name := fun _ _ e => .inl e
  need := fun _ _ e => .inl e
  enter {f d d' s} hd := fun l r e => by
    unfold mEnter at e ⊢
    by_cases hp : pIs s l = true
    · rw [if_pos hp] at e ⊢
      by_cases h64 : d' = 64
      · rw [if_pos h64]; exact .inr ⟨_, rfl⟩
      · rw [if_neg h64]
        split at e
        · cases e
        · exact .inl e
    · rw [if_neg hp] at e; cases e
  deep {f d d'} hd := fun l r e => by
    unfold mDeep at e ⊢
    by_cases h64 : d' = 64
    · rw [if_pos h64]; exact .inr ⟨_, rfl⟩
    · rw [if_neg h64]
      split at e
      · cases e
      · exact .inl e
  num := fun _ _ e => .inl e
  succ _ := trivial
  up h e e' := fun l r q => by
    rw [e']
    exact h l r ((e l).symm.trans q)
  zero := fun l r e => by unfold mRead at e; rw [pRead] at e; cases e
theorem dp_read {f : Nat} {w : Want} {d : Nat} (d' : Nat) {l : List Tk} {r : List Syn × List Tk} (e : pRead f w d l = .ok r) : pRead f w d' l = .ok r ∨ ∃ a, pRead f w d' l = .error (a, 12) := dpCls.read f w d d' trivial l r e
/-- Beyond the last level there is no error for too many of them. -/
def Nd {α : Type} (f : Nat) (m : Rd α) : Prop := ∀ l a, m f l ≠ .error (a, 12)
theorem ndCls : Cls (fun _ f m _ => Nd f m) (fun d _ => 65 ≤ d) where
  bind {_ _ f m _ k _} h g := fun l a e => by
    cases hm : m f l with
    | error p =>
      have : mBind m k f l = .error p := by show (m f l >>= _) = _; rw [hm]; rfl
      rw [this] at e
      cases e
      exact h l a hm
    | ok q =>
      have : mBind m k f l = k q.1 f q.2 := by show (m f l >>= _) = _; rw [hm]; rfl
      rw [this] at e
      exact g q.1 q.2 a e
  ite h g := by split <;> assumption
  ret := fun _ _ e => by cases e
  peek := fun _ _ e => by cases e
  take := fun _ _ e => by cases e
  is := fun _ _ e => by cases e
  op := fun _ _ e => by cases e
  next := fun _ _ e => by cases e
  named := fun _ _ e => by cases e
  name := fun _ _ e => by unfold mName pName at e; split at e <;> cases e
  need := fun _ _ e => by unfold mNeed at e; split at e <;> cases e
  enter {f d d' s} hd := fun _ _ e => by
    unfold mEnter at e
    rw [if_neg (show ¬ d = 64 by omega)] at e
    split at e <;> cases e
  deep {f d d'} hd := fun _ _ e => by
    unfold mDeep at e
    rw [if_neg (show ¬ d = 64 by omega)] at e
    cases e
  num := fun _ _ e => by
    unfold mNum at e
    split at e
    · split at e <;> cases e
    · cases e
  succ h := by omega
  up h e _ := fun l a q => h l a ((e l).symm.trans q)
  zero := fun l a e => by unfold mRead at e; rw [pRead] at e; cases e
theorem nd_read {f : Nat} {w : Want} {d : Nat} (h : 65 ≤ d) (l : List Tk) (a : Int) : pRead f w d l ≠ .error (a, 12) := ndCls.read f w d d h l a
/-- What is read at some level is read beyond the last one. -/
theorem far_read {f : Nat} {w : Want} {d : Nat} (d' : Nat) (h : 65 ≤ d') {l : List Tk} {r : List Syn × List Tk} (e : pRead f w d l = .ok r) : pRead f w d' l = .ok r := by
  rcases dp_read d' e with g | ⟨a, g⟩
  · exact g
  · exact absurd g (nd_read h l a)
end Go.Proofs.YtdibcllakkjegaaGreatDoor

/-
  What the entries answer of tokens that are equal up to offsets.
-/
set_option linter.unusedSimpArgs false
set_option linter.unusedVariables false
namespace Go.Proofs.YtdibcllakkjegaaGreatDoor
open Go Go.Proofs Go.RowKit

theorem bare_head : ∀ {x y : List Syn} (z : Syn), bareL x = bareL y → bareS (x.headD z) = bareS (y.headD z)
  | [], [], _, _ => rfl
  | [], y :: ys, _, h => by rw [bareL, bareL] at h; cases h
  | x :: xs, [], _, h => by rw [bareL, bareL] at h; cases h
  | x :: xs, y :: ys, _, h => by
    rw [bareL, bareL, List.cons.injEq] at h
    exact h.1
/-- Comments, blanks and offsets do not matter: the same tokens give the same tree up to offsets. -/
theorem pTk_sim {k : Nat} {l m : List Tk} {x : Syn} (hs : Sim l m) (h : pTk k l = .ok x) : ∃ y, pTk k m = .ok y ∧ bareS x = bareS y := by
  obtain ⟨f, xs, r, h1, h2, rfl⟩ := pTk_ok h
  have g := pRead_sim f (entW k l) (entW k m) 0 l m (by unfold entW; split <;> first | exact trivial | exact rfl) hs
  rw [h1] at g
  cases hm : pRead f (entW k m) 0 m with
  | error p => rw [hm] at g; cases g
  | ok q =>
    obtain ⟨ys, r2⟩ := q
    rw [hm] at g
    obtain ⟨g1, g2⟩ := (g : RL _ _)
    refine ⟨_, pTk_of hm (by rw [← g2.is]; exact h2), ?_⟩
    unfold entT
    split
    · simp only [bareS, g1]
    · exact bare_head _ g1
end Go.Proofs.YtdibcllakkjegaaGreatDoor

/-
  parser: procedures and records end where they end; two programs one behind the other.
-/
set_option linter.unusedSimpArgs false
set_option linter.unusedVariables false
namespace Go.Proofs.YtdibcllakkjegaaGreatDoor
open Go Go.Proofs Go.RowKit

theorem is_end {s : List UInt8} (h : s ≠ []) (a : Int) : pIs s [tE a] = false := by
  unfold pIs
  cases s with
  | nil => exact absurd rfl h
  | cons c s => rfl
theorem op_end (i : Nat) (a : Int) : pOp i [tE a] = false := by
  unfold pOp pOps
  split <;> rfl
section
variable {α β : Type} {f : Nat}
end
theorem read_up {f g : Nat} {w : Want} {d : Nat} {l : List Tk} {r : List Syn × List Tk} (h : pRead f w d l = .ok r) (hg : f ≤ g) : pRead g w d l = .ok r := by
  rw [pRead_more f g w d l hg (by rw [h]; intro q; cases q), h]
end Go.Proofs.YtdibcllakkjegaaGreatDoor

/-
  parser: expressions and conditions before a token that does not go on with them; parentheses and signs around them.
-/
set_option linter.unusedSimpArgs false
set_option linter.unusedVariables false
namespace Go.Proofs.YtdibcllakkjegaaGreatDoor
open Go Go.Proofs Go.RowKit

theorem place_end (f d : Nat) (a : Int) (r : List Syn × List Tk) : pRead f .place d [tE a] ≠ .ok r := by
  cases f with
  | zero => intro e; rw [pRead] at e; cases e
  | succ f =>
    intro e
    rw [pRead] at e
    obtain ⟨⟨t, l1⟩, e1, -⟩ := ebind_ok e
    unfold pName at e1
    rw [if_neg (show ¬ pNamed (pHd [tE a]) = true by show ¬ (decide ((3 : Int) = 0) && _) = true; simp)] at e1
    cases e1
theorem lvl_end : ∀ (f i d : Nat) (a : Int) (r : List Syn × List Tk), pRead f (.lvl i) d [tE a] ≠ .ok r
  | 0, i, d, a, r => fun e => by rw [pRead] at e; cases e
  | f + 1, i, d, a, r => fun e => by
    have ih := lvl_end f
    rw [pRead] at e
    split at e
    · rw [if_neg (by rw [op_end]; exact Bool.false_ne_true)] at e
      exact ih _ _ _ _ e
    · split at e
      · obtain ⟨q, e1, -⟩ := ebind_ok e
        exact ih _ _ _ _ e1
      · split at e
        · rw [if_neg (show ¬ (pHd [tE a]).k = 1 by show ¬ (3 : Int) = 1; decide), if_neg (by rw [is_end (by decide), is_end (by decide)]; simp), if_neg (by rw [is_end (by decide)]; simp)] at e
          exact place_end _ _ _ _ e
        · obtain ⟨q, e1, -⟩ := ebind_ok e
          exact ih _ _ _ _ e1
theorem tl_end {V : List Tk} {v : Tk} {a : Int} : pTl (v :: V ++ [tE a]) = V ++ [tE a] := tl_cons (by simp)
theorem bare_in {f d : Nat} {V V2 : List Tk} {a : Int} {S' : List Tk} {y : List Syn} (hS : S' ≠ []) (h : pRead f .bare d (V ++ [tE a]) = .ok (y, V2 ++ [tE a])) : pRead f .bare d (V ++ S') = .ok (y, V2 ++ S') := by
  cases f with
  | zero => rw [pRead] at h; cases h
  | succ f =>
    rw [pRead] at h ⊢
    obtain ⟨⟨t, l1⟩, e1, e2⟩ := ebind_ok h
    unfold pName at e1 ⊢
    cases V with
    | nil => cases e1
    | cons v V =>
      by_cases hn : pNamed v = true
      · rw [if_pos (show pNamed (pHd (v :: V ++ [tE a])) = true from hn)] at e1
        rw [if_pos (show pNamed (pHd (v :: V ++ S')) = true from hn)]
        rw [tl_end] at e1
        cases e1
        obtain ⟨e3, e4⟩ := Prod.mk.inj (Except.ok.inj e2)
        obtain rfl := List.append_cancel_right e4
        rw [← e3, tl_cons hS]
        rfl
      · rw [if_neg (show ¬ pNamed (pHd (v :: V ++ [tE a])) = true from hn)] at e1
        cases e1
theorem is_last {s : List UInt8} {V : List Tk} {a : Int} (hs : s ≠ []) (h : pIs s (V ++ [tE a]) = true) : ∃ v V', V = v :: V' := by
  cases V with
  | nil => rw [List.nil_append, is_end hs] at h; cases h
  | cons v V => exact ⟨v, V, rfl⟩
theorem place_in {f d : Nat} {V V2 : List Tk} {a : Int} {S' : List Tk} {y : List Syn} (hS : S' ≠ []) (hi : pIs [46] S' = false) (h : pRead f .place d (V ++ [tE a]) = .ok (y, V2 ++ [tE a])) : pRead f .place d (V ++ S') = .ok (y, V2 ++ S') := by
  cases f with
  | zero => rw [pRead] at h; cases h
  | succ f =>
    rw [pRead] at h ⊢
    obtain ⟨⟨t, l1⟩, e1, e2⟩ := ebind_ok h
    unfold pName at e1 ⊢
    cases V with
    | nil => cases e1
    | cons v V =>
      by_cases hn : pNamed v = true
      · rw [if_pos (show pNamed (pHd (v :: V ++ [tE a])) = true from hn)] at e1
        rw [if_pos (show pNamed (pHd (v :: V ++ S')) = true from hn)]
        rw [tl_end] at e1
        cases e1
        rw [tl_cons hS]
        show (if pIs [46] (V ++ S') = true then _ else _) = _
        dsimp only at e2
        by_cases hp : pIs [46] (V ++ [tE a]) = true
        · rw [if_pos hp] at e2
          obtain ⟨u, V, rfl⟩ := is_last (by decide) hp
          rw [if_pos (show pIs [46] (u :: V ++ S') = true from hp)]
          obtain ⟨⟨x, l2⟩, e3, e4⟩ := ebind_ok e2
          cases e4
          rw [tl_end] at e3
          rw [tl_cons hS, bare_in hS e3]
          rfl
        · rw [if_neg hp] at e2
          have hp2 : ¬ pIs [46] (V ++ S') = true := by
            cases V with
            | nil => rw [List.nil_append, hi]; simp
            | cons u V => exact hp
          rw [if_neg hp2]
          obtain ⟨e3, e4⟩ := Prod.mk.inj (Except.ok.inj e2)
          obtain rfl := List.append_cancel_right e4
          rw [← e3]
          rfl
      · rw [if_neg (show ¬ pNamed (pHd (v :: V ++ [tE a])) = true from hn)] at e1
        cases e1
theorem op_in {m i : Nat} {V S' : List Tk} {a : Int} (h : Inr m (pHd S')) (hi : m ≤ i) : pOp i (V ++ S') = pOp i (V ++ [tE a]) := by
  cases V with
  | nil => rw [List.nil_append, List.nil_append, op_end, h.op hi]
  | cons v V => rfl
theorem op_last {i : Nat} {V : List Tk} {a : Int} (h : pOp i (V ++ [tE a]) = true) : ∃ v V', V = v :: V' := by
  cases V with
  | nil => rw [List.nil_append, op_end] at h; cases h
  | cons v V => exact ⟨v, V, rfl⟩
set_option maxHeartbeats 1000000 in
/-- What is read before the end is read before a token that does not go on with it. -/
theorem read_in (m : Nat) : ∀ f : Nat, (∀ (i d : Nat) (V V2 : List Tk) (a : Int) (S' : List Tk) (y : List Syn), m ≤ i → S' ≠ [] → Inr m (pHd S') → pRead f (.lvl i) d (V ++ [tE a]) = .ok (y, V2 ++ [tE a]) → pRead f (.lvl i) d (V ++ S') = .ok (y, V2 ++ S')) ∧
    (∀ (i d : Nat) (b : Int) (x : List Syn) (V V2 : List Tk) (a : Int) (S' : List Tk) (y : List Syn), m ≤ i → S' ≠ [] → Inr m (pHd S') → pRead f (.rep i b x) d (V ++ [tE a]) = .ok (y, V2 ++ [tE a]) → pRead f (.rep i b x) d (V ++ S') = .ok (y, V2 ++ S'))
  | 0 => by
    refine ⟨fun i d V V2 a S' y _ _ _ h => ?_, fun i d b x V V2 a S' y _ _ _ h => ?_⟩ <;> (rw [pRead] at h; cases h)
  | f + 1 => by
    obtain ⟨ihL, ihR⟩ := read_in m f
    refine ⟨fun i d V V2 a S' y hm hS hI h => ?_, fun i d b x V V2 a S' y hm hS hI h => ?_⟩
    · cases V with
      | nil => exact absurd h (lvl_end _ _ _ _ _)
      | cons v V =>
        rw [pRead] at h ⊢
        by_cases h1 : i = 2 ∨ i = 6
        · rw [if_pos h1] at h ⊢
          by_cases hop : pOp i (v :: V ++ [tE a]) = true
          · rw [if_pos hop] at h
            rw [if_pos (show pOp i (v :: V ++ S') = true from hop)]
            by_cases h64 : d = 64
            · rw [if_pos h64] at h; cases h
            · rw [if_neg h64] at h ⊢
              obtain ⟨⟨x, l1⟩, e1, e2⟩ := ebind_ok h
              cases e2
              rw [tl_end] at e1
              rw [tl_cons hS, ihL _ _ _ _ _ _ _ hm hS hI e1]
              rfl
          · rw [if_neg hop] at h
            rw [if_neg (show ¬ pOp i (v :: V ++ S') = true from hop)]
            exact ihL _ _ (v :: V) _ _ _ _ (by omega) hS hI h
        · rw [if_neg h1] at h ⊢
          by_cases h3 : i = 3
          · rw [if_pos h3] at h ⊢
            obtain ⟨⟨x, l1⟩, e1, e2⟩ := ebind_ok h
            obtain ⟨V1, rfl⟩ := left_end e1
            rw [ihL 4 _ (v :: V) _ _ _ _ (by omega) hS hI e1]
            show (if pOp 3 (V1 ++ S') = true then _ else _) = _
            dsimp only at e2
            rw [op_in (a := a) hI (by omega)]
            by_cases hop : pOp 3 (V1 ++ [tE a]) = true
            · rw [if_pos hop] at e2 ⊢
              obtain ⟨u, V1, rfl⟩ := op_last hop
              obtain ⟨⟨z, l2⟩, e3, e4⟩ := ebind_ok e2
              cases e4
              rw [tl_end] at e3
              rw [tl_cons hS, ihL 4 _ _ _ _ _ _ (by omega) hS hI e3]
              rfl
            · rw [if_neg hop] at e2 ⊢
              rw [show (pure (x, V1 ++ [tE a]) : Red) = .ok (x, V1 ++ [tE a]) from rfl, Except.ok.injEq, Prod.mk.injEq] at e2
              obtain ⟨rfl, e2⟩ := e2
              obtain rfl := List.append_cancel_right e2
              rfl
          · rw [if_neg h3] at h ⊢
            by_cases h7 : 7 ≤ i
            · rw [if_pos h7] at h ⊢
              by_cases hk : v.k = 1
              · rw [if_pos (show (pHd (v :: V ++ [tE a])).k = 1 from hk)] at h
                rw [if_pos (show (pHd (v :: V ++ S')).k = 1 from hk)]
                rw [tl_end, Except.ok.injEq, Prod.mk.injEq] at h
                obtain ⟨rfl, e2⟩ := h
                obtain rfl := List.append_cancel_right e2
                rw [tl_cons hS]; rfl
              · rw [if_neg (show ¬ (pHd (v :: V ++ [tE a])).k = 1 from hk)] at h
                rw [if_neg (show ¬ (pHd (v :: V ++ S')).k = 1 from hk)]
                by_cases hb : pIs wTrue (v :: V ++ [tE a]) = true ∨ pIs wFalse (v :: V ++ [tE a]) = true
                · rw [if_pos hb] at h
                  rw [if_pos (show pIs wTrue (v :: V ++ S') = true ∨ pIs wFalse (v :: V ++ S') = true from hb)]
                  rw [tl_end, Except.ok.injEq, Prod.mk.injEq] at h
                  obtain ⟨rfl, e2⟩ := h
                  obtain rfl := List.append_cancel_right e2
                  rw [tl_cons hS]; rfl
                · rw [if_neg hb] at h
                  rw [if_neg (show ¬ (pIs wTrue (v :: V ++ S') = true ∨ pIs wFalse (v :: V ++ S') = true) from hb)]
                  by_cases hq : pIs [40] (v :: V ++ [tE a]) = true
                  · rw [if_pos hq] at h
                    rw [if_pos (show pIs [40] (v :: V ++ S') = true from hq)]
                    by_cases h64 : d = 64
                    · rw [if_pos h64] at h; cases h
                    · rw [if_neg h64] at h ⊢
                      obtain ⟨⟨x, l1⟩, e1, e2⟩ := ebind_ok h
                      obtain ⟨l2, e3, e4⟩ := ebind_ok e2
                      cases e4
                      rw [tl_end] at e1
                      obtain ⟨V1, rfl⟩ := left_end e1
                      unfold pNeed at e3
                      by_cases hc : pIs [41] (V1 ++ [tE a]) = true
                      · rw [if_pos hc] at e3
                        obtain ⟨u, V1, rfl⟩ := is_last (by decide) hc
                        rw [tl_end, Except.ok.injEq] at e3
                        obtain rfl := List.append_cancel_right e3
                        rw [tl_cons hS, show pRead f (.lvl 0) (d + 1) (V ++ S') = _ from prf_read f (.lvl 0) (d + 1) V (u :: V1) [tE a] S' _ (by simp) hS (by simp) e1]
                        show ((if pIs [41] (u :: V1 ++ S') = true then (Except.ok (pTl (u :: V1 ++ S')) : Except (Int × Nat) (List Tk)) else .error ((pHd (u :: V1 ++ S')).a, 4)) >>= fun l2 => pure (_, l2)) = _
                        rw [if_pos (show pIs [41] (u :: V1 ++ S') = true from hc), tl_cons hS]
                        rfl
                      · rw [if_neg hc] at e3; cases e3
                  · rw [if_neg hq] at h
                    rw [if_neg (show ¬ pIs [40] (v :: V ++ S') = true from hq)]
                    exact place_in (V := v :: V) hS hI.2 h
            · rw [if_neg h7] at h ⊢
              obtain ⟨⟨x, l1⟩, e1, e2⟩ := ebind_ok h
              obtain ⟨V1, rfl⟩ := left_end e1
              rw [ihL _ _ (v :: V) _ _ _ _ (by omega) hS hI e1]
              exact ihR _ _ _ _ _ _ _ _ _ hm hS hI e2
    · rw [pRead] at h ⊢
      rw [op_in (a := a) hI hm]
      by_cases hop : pOp i (V ++ [tE a]) = true
      · rw [if_pos hop] at h ⊢
        obtain ⟨u, V, rfl⟩ := op_last hop
        obtain ⟨⟨z, l1⟩, e1, e2⟩ := ebind_ok h
        rw [tl_end] at e1
        obtain ⟨V1, rfl⟩ := left_end e1
        rw [tl_cons hS, ihL _ _ _ _ _ _ _ (by omega) hS hI e1]
        exact ihR _ _ _ _ _ _ _ _ _ hm hS hI e2
      · rw [if_neg hop] at h ⊢
        rw [Except.ok.injEq, Prod.mk.injEq] at h
        obtain ⟨rfl, e2⟩ := h
        obtain rfl := List.append_cancel_right e2
        rfl
theorem lvl_in {m f i d : Nat} {V : List Tk} {a : Int} {S' : List Tk} {y : List Syn} (hm : m ≤ i) (hS : S' ≠ []) (hI : Inr m (pHd S')) (h : pRead f (.lvl i) d (V ++ [tE a]) = .ok (y, [tE a])) : pRead f (.lvl i) d (V ++ S') = .ok (y, S') :=
  (read_in m f).1 i d V [] a S' y hm hS hI h
/-- An expression as an operand of a level below. -/
theorem up6 {f d : Nat} {l r : List Tk} {x : List Syn} (h : pRead f (.lvl 6) d l = .ok (x, r)) (h5 : pOp 5 r = false) (h4 : pOp 4 r = false) : pRead (f + 3) (.lvl 4) d l = .ok (x, r) := by
  have g : pRead (f + 1) (.lvl 6) d l = .ok (x, r) := read_up h (by omega)
  have e5 : pRead (f + 2) (.lvl 5) d l = .ok (x, r) := by
    rw [pRead, if_neg (by decide), if_neg (by decide), if_neg (by decide)]
    rw [g]
    show pRead (f + 1) (.rep 5 _ x) d r = _
    rw [pRead, if_neg (by rw [h5]; simp)]
  rw [pRead, if_neg (by decide), if_neg (by decide), if_neg (by decide)]
  rw [e5]
  show pRead (f + 2) (.rep 4 _ x) d r = _
  rw [pRead, if_neg (by rw [h4]; simp)]
theorem up3 {f d : Nat} {l r : List Tk} {x : List Syn} (h : pRead f (.lvl 3) d l = .ok (x, r)) (h2 : pOp 2 l = false) (h1 : pOp 1 r = false) (h0 : pOp 0 r = false) : pRead (f + 3) (.lvl 0) d l = .ok (x, r) := by
  have e2 : pRead (f + 1) (.lvl 2) d l = .ok (x, r) := by
    rw [pRead, if_pos (by decide)]
    rw [if_neg (by rw [h2]; simp)]
    exact h
  have e1 : pRead (f + 2) (.lvl 1) d l = .ok (x, r) := by
    rw [pRead, if_neg (by decide), if_neg (by decide), if_neg (by decide)]
    rw [e2]
    show pRead (f + 1) (.rep 1 _ x) d r = _
    rw [pRead, if_neg (by rw [h1]; simp)]
  rw [pRead, if_neg (by decide), if_neg (by decide), if_neg (by decide)]
  rw [e1]
  show pRead (f + 2) (.rep 0 _ x) d r = _
  rw [pRead, if_neg (by rw [h0]; simp)]
theorem up4 {f d : Nat} {l r : List Tk} {x : List Syn} (h : pRead f (.lvl 4) d l = .ok (x, r)) (h3 : pOp 3 r = false) : pRead (f + 1) (.lvl 3) d l = .ok (x, r) := by
  rw [pRead, if_neg (by decide), if_pos rfl]
  rw [h]
  show (if pOp 3 r = true then _ else _) = _
  rw [if_neg (by rw [h3]; simp)]
  rfl
/-- A comparison. -/
theorem cmp3 {f d : Nat} {l r r2 : List Tk} {x y : List Syn} (h : pRead f (.lvl 4) d l = .ok (x, r)) (h3 : pOp 3 r = true) (g : pRead f (.lvl 4) d (pTl r) = .ok (y, r2)) : pRead (f + 1) (.lvl 3) d l = .ok ([.mk 22 (pHd l).a (pHd r).t 0 (x ++ y)], r2) := by
  rw [pRead, if_neg (by decide), if_pos rfl]
  rw [h]
  show (if pOp 3 r = true then _ else _) = _
  rw [if_pos h3, g]
  rfl
/-- A condition in parentheses. -/
theorem par7 {f d : Nat} {t : Tk} {l r : List Tk} {x : List Syn} (ht : bytes t.t = [40]) (hk : t.k ≠ 1) (hl : l ≠ []) (h64 : d ≠ 64) (h : pRead f (.lvl 0) (d + 1) l = .ok (x, r)) (hr : pIs [41] r = true) : pRead (f + 1) (.lvl 7) d (t :: l) = .ok (x, pTl r) := by
  have hi : ∀ s, pIs s (t :: l) = ([40] == s) := fun s => by show (bytes t.t == s) = _; rw [ht]
  have htl : pTl (t :: l) = l := by obtain ⟨u, l, rfl⟩ := List.exists_cons_of_ne_nil hl; rfl
  rw [pRead, if_neg (by decide), if_neg (by decide), if_pos (by decide)]
  rw [if_neg (show ¬ (pHd (t :: l)).k = 1 from hk), if_neg (by rw [hi, hi]; decide), if_pos (by rw [hi]; rfl), if_neg h64, htl, h]
  show ((if pIs [41] r = true then (Except.ok (pTl r) : Except (Int × Nat) (List Tk)) else .error ((pHd r).a, 4)) >>= fun l2 => pure (x, l2)) = _
  rw [if_pos hr]
  rfl
theorem up7 {f d : Nat} {l r : List Tk} {x : List Syn} (h : pRead f (.lvl 7) d l = .ok (x, r)) (h6 : pOp 6 l = false) : pRead (f + 1) (.lvl 6) d l = .ok (x, r) := by
  rw [pRead, if_pos (by decide)]
  rw [if_neg (by rw [h6]; simp)]
  exact h
/-- What begins with a sign of negation is no expression. -/
theorem no_not : ∀ (f i d : Nat) (l : List Tk) (r : List Syn × List Tk), ((pHd l).k = 1 → bytes (pHd l).t ≠ [110, 111, 116]) → 3 ≤ i → pRead f (.lvl i) d l = .ok r → pOp 2 l = false
  | 0, i, d, l, r, _, _, e => by rw [pRead] at e; cases e
  | f + 1, i, d, l, r, hN, hi, e => by
    have ih := fun i d l r => no_not f i d l r
    cases hc : pOp 2 l with
    | false => rfl
    | true =>
      exfalso
      have ht : bytes (pHd l).t = [110, 111, 116] := by
        have hc' : ([[110, 111, 116]] : List (List UInt8)).contains (bytes (pHd l).t) = true := hc
        simpa using hc'
      have hcn : ¬ pOp 2 l = false := by rw [hc]; simp
      rw [pRead] at e
      by_cases h1 : i = 2 ∨ i = 6
      · rw [if_pos h1] at e
        have h6 : i = 6 := by omega
        subst h6
        have : pOp 6 l = false := by show ([[45]] : List (List UInt8)).contains (bytes (pHd l).t) = false; rw [ht]; rfl
        rw [if_neg (by rw [this]; simp)] at e
        exact hcn (ih _ _ _ _ hN (by omega) e)
      · rw [if_neg h1] at e
        by_cases h3 : i = 3
        · rw [if_pos h3] at e
          obtain ⟨q, e1, -⟩ := ebind_ok e
          exact hcn (ih _ _ _ _ hN (by omega) e1)
        · rw [if_neg h3] at e
          by_cases h7 : 7 ≤ i
          · have hs : ∀ s, pIs s l = ([110, 111, 116] == s) := fun s => by unfold pIs; rw [ht]
            rw [if_pos h7] at e
            by_cases hk : (pHd l).k = 1
            · exact hN hk ht
            · rw [if_neg hk, if_neg (by rw [hs, hs]; decide), if_neg (by rw [hs]; decide)] at e
              cases f with
              | zero => rw [pRead] at e; cases e
              | succ f =>
                rw [pRead] at e
                obtain ⟨q, e1, -⟩ := ebind_ok e
                unfold pName at e1
                have : pNamed (pHd l) = false := by
                  unfold pNamed
                  have : nmE (pHd l).t ≠ 0 := by
                    rw [← str_bytes (pHd l).t, ht]
                    decide +kernel
                  rw [decide_eq_false this, Bool.and_false]
                rw [if_neg (by rw [this]; simp)] at e1
                cases e1
          · rw [if_neg h7] at e
            obtain ⟨q, e1, -⟩ := ebind_ok e
            exact hcn (ih _ _ _ _ hN (by omega) e1)
end Go.Proofs.YtdibcllakkjegaaGreatDoor

/-
  Tokens of built texts, without their offsets.
-/
set_option linter.unusedSimpArgs false
set_option linter.unusedVariables false
namespace Go.Proofs.YtdibcllakkjegaaGreatDoor
open Go Go.Proofs Go.RowKit

theorem B_of {f a : Nat} {l : List UInt8} (h : l.length < f) : B l = if (sq f a l).2.2 = 0 then some ((sq f a l).1.map nk) else none := by
  have e := (sq_shift a f 0 l h).1
  rw [Nat.zero_add, sq_fuel f (l.length + 1) 0 l h (Nat.lt_succ_self _)] at e
  unfold B sqR
  rw [e, List.map_map]
  rfl
theorem B_nil : B [] = some [(3, [])] := rfl
theorem B_gap {g : List UInt8} (hg : ∀ z, skM false (g ++ z) = g.length + skM false z) (z : List UInt8) : B (g ++ z) = B z := by
  have hd : (g ++ z).drop (g.length + skM false z) = z.drop (skM false z) := by rw [← List.drop_drop, List.drop_left]
  have e : sq ((g ++ z).length + 1) 0 (g ++ z) = sq ((g ++ z).length + 1) (0 + g.length) z := by
    rw [sq, sq, hg, hd]
    simp only [Nat.zero_add]
  rw [B_of (f := (g ++ z).length + 1) (a := 0) (Nat.lt_succ_self _), e, ← B_of (by rw [List.length_append]; omega)]
theorem B_tok' {x z : List UInt8} (hx : okX x) (ht : tn (x ++ z) = x.length) : B (x ++ z) = (B z).map ((tkd x, x) :: ·) := by
  obtain ⟨h1, h2, h3⟩ := hx
  have hh := hc_app h1 z
  have hq := tok_hc h1 h2
  have hk : skM false (x ++ z) = 0 := sk_none (by rw [hh]; exact hq.1) (by rw [hh]; exact hq.2)
  have e := sq_tok (f := (x ++ z).length) (a := 0) hk (List.drop_zero ..) h1 ht h2
  have hlen : z.length < (x ++ z).length := by rw [List.length_append]; have := List.length_pos_iff.2 h1; omega
  rw [B_of (f := (x ++ z).length + 1) (a := 0) (Nat.lt_succ_self _), e, B_of (l := z) (a := 0 + 0 + x.length) hlen]
  dsimp only
  split <;> rfl
theorem B_tok {x : List UInt8} (hx : okX x) {c : UInt8} (hw : wdB c.toNat = false) (h61 : c ≠ 61) (m : List UInt8) : B (x ++ c :: m) = (B (c :: m)).map ((tkd x, x) :: ·) := B_tok' hx (tn_stop hx.1 hx.2.2 hw h61 m)
theorem B_one {c : UInt8} (hc : okX [c]) (hw : wdB c.toNat = false) (h5 : cls c.toNat = 5) (hl : lsB [c, 61] = false) (m : List UInt8) : B (c :: m) = (B m).map ((tkd [c], [c]) :: ·) := by
  refine B_tok' (x := [c]) (z := m) hc ?_
  show max (wl (c :: m)) (sl (c :: m)) = 1
  have e1 : wl (c :: m) = 0 := by rw [wl_cons, hw]; rfl
  have e2 : lsB [c, m.getD 0 0] = false := by
    by_cases h : m.getD 0 0 = 61
    · rw [h]; exact hl
    · exact lsB_ne h
  rw [e1, sl_hd, e2, h5]
  rfl
theorem B_line (l m : List UInt8) : B (l ++ 10 :: m) = (B l).bind fun x => (B m).map fun y => x.dropLast ++ y := by
  have e := sq_line m (l.length + 1) (l.length + 1 + m.length + 1) 0 l (Nat.lt_succ_self _) (Nat.lt_succ_self _)
  have hl : (l ++ 10 :: m).length < l.length + 1 + m.length + 1 := by rw [List.length_append, List.length_cons]; omega
  rw [B_of hl, e, B_of (l := l) (f := l.length + 1) (a := 0) (Nat.lt_succ_self _), B_of (l := m) (f := l.length + 1 + m.length + 1) (a := 0 + l.length + 1) (by omega)]
  by_cases h : (sq (l.length + 1) 0 l).2.2 = 0
  · rw [if_pos h, if_pos h]
    dsimp only
    show _ = Option.map _ _
    split
    · rw [Option.map_some, List.map_append, List.map_dropLast]
    · rfl
  · rw [if_neg h, if_neg h]; rfl
abbrev nt (t : Tk) : Int × List UInt8 := (t.k, bytes t.t)
theorem nt_toTk (t : Int × List UInt8 × Nat) : nt (toTk t) = nk t := by show (t.1, bytes (str t.2.1)) = _; rw [bytes_str]
theorem scR_B {s : ByteArray} (h : s.size ≤ 65536) {L : List (Int × List UInt8)} (hB : B (bytes s) = some L) : (scR s).2.2 = 0 ∧ (scR s).1.map nt = L := by
  unfold B at hB
  by_cases q : (sqR (bytes s)).2.2 = 0
  · rw [if_pos q] at hB
    rw [scR_sq h, if_pos q]
    refine ⟨q, ?_⟩
    rw [← Option.some.inj hB, List.map_map]
    exact List.map_congr_left fun t _ => nt_toTk t
  · rw [if_neg q] at hB; cases hB
theorem B_scR {s : ByteArray} (he : (scR s).2.2 = 0) : B (bytes s) = some ((scR s).1.map nt) := by
  have h := scan_long he
  obtain ⟨q, e, -⟩ := scR_ok h he
  unfold B
  rw [if_pos q, e, List.map_map]
  exact congrArg some (List.map_congr_left fun t _ => (nt_toTk t).symm)
theorem sim_of : ∀ {l m : List Tk}, l.map nt = m.map nt → Sim l m
  | [], [], _ => trivial
  | [], _ :: _, h => by cases h
  | _ :: _, [], h => by cases h
  | t :: l, u :: m, h => by
    rw [List.map_cons, List.map_cons, List.cons.injEq, Prod.mk.injEq] at h
    exact ⟨⟨h.1.1, by rw [← str_bytes t.t, h.1.2, str_bytes]⟩, sim_of h.2⟩
theorem pTk_sim_err {k : Nat} {l m : List Tk} {a : Int} {c : Nat} (hc : c ≠ 0) (hs : Sim l m) (h : pTk k l = .error (a, c)) (h4 : ∃ f p, pRead f (entW k l) 0 l = .error p ∧ p.2 = c) : ∃ b, pTk k m = .error (b, c) := by
  obtain ⟨f, p, h1, h2⟩ := h4
  have g := pRead_sim f (entW k l) (entW k m) 0 l m (by unfold entW; split <;> first | exact trivial | exact rfl) hs
  rw [h1] at g
  cases hm : pRead f (entW k m) 0 m with
  | ok q => rw [hm] at g; cases g
  | error q =>
    rw [hm] at g
    have e : q.2 = c := (g : p.2 = q.2).symm.trans h2
    refine ⟨q.1, ?_⟩
    unfold pTk
    rw [pLim_of hm (fun z => by cases z; exact hc e.symm)]
    show Except.error q = _
    rw [← e]
/-- One tree is read. -/
theorem one_read : ∀ f : Nat, (∀ (i d : Nat) (l r : List Tk) (xs : List Syn), pRead f (.lvl i) d l = .ok (xs, r) → ∃ x, xs = [x]) ∧ (∀ (i d : Nat) (b : Int) (x : Syn) (l r : List Tk) (xs : List Syn), pRead f (.rep i b [x]) d l = .ok (xs, r) → ∃ x, xs = [x])
  | 0 => by
    refine ⟨fun i d l r xs h => ?_, fun i d b x l r xs h => ?_⟩ <;> (rw [pRead] at h; cases h)
  | f + 1 => by
    obtain ⟨ihL, ihR⟩ := one_read f
    refine ⟨fun i d l r xs h => ?_, fun i d b x l r xs h => ?_⟩
    · rw [pRead] at h
      split at h
      · split at h
        · split at h
          · cases h
          · obtain ⟨q, -, e2⟩ := ebind_ok h
            cases e2; exact ⟨_, rfl⟩
        · exact ihL _ _ _ _ _ h
      · split at h
        · obtain ⟨⟨x, l1⟩, e1, e2⟩ := ebind_ok h
          have := ihL _ _ _ _ _ e1
          dsimp only at e2
          split at e2
          · obtain ⟨q, -, e4⟩ := ebind_ok e2
            cases e4; exact ⟨_, rfl⟩
          · cases e2; exact this
        · split at h
          · split at h
            · cases h; exact ⟨_, rfl⟩
            · split at h
              · cases h; exact ⟨_, rfl⟩
              · split at h
                · split at h
                  · cases h
                  · obtain ⟨⟨x, l1⟩, e1, e2⟩ := ebind_ok h
                    have := ihL _ _ _ _ _ e1
                    obtain ⟨q, -, e4⟩ := ebind_ok e2
                    cases e4; exact this
                · cases f with
                  | zero => rw [pRead] at h; cases h
                  | succ f =>
                    rw [pRead] at h
                    obtain ⟨⟨t, l1⟩, e1, e2⟩ := ebind_ok h
                    dsimp only at e2
                    split at e2
                    · obtain ⟨q, -, e4⟩ := ebind_ok e2
                      cases e4; exact ⟨_, rfl⟩
                    · cases e2; exact ⟨_, rfl⟩
          · obtain ⟨⟨x, l1⟩, e1, e2⟩ := ebind_ok h
            obtain ⟨x, rfl⟩ := ihL _ _ _ _ _ e1
            exact ihR _ _ _ _ _ _ _ e2
    · rw [pRead] at h
      split at h
      · obtain ⟨⟨x, l1⟩, e1, e2⟩ := ebind_ok h
        exact ihR _ _ _ _ _ _ _ e2
      · cases h; exact ⟨_, rfl⟩
end Go.Proofs.YtdibcllakkjegaaGreatDoor

