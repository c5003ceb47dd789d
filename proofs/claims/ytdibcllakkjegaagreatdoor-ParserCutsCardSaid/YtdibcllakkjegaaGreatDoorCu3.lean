import Derived.Test.YtdibcllakkjegaaGreatDoorCut32
import Derived.Test.YtdibcllakkjegaaGreatDoorCu1
import Derived.Test.YtdibcllakkjegaaGreatDoorCu2

set_option linter.unusedVariables false
/-
  parser: errors of a list that was cut: at its end, or they are there without the cut.
-/
set_option linter.unusedSimpArgs false
set_option linter.unusedVariables false
namespace Go.Proofs.YtdibcllakkjegaaGreatDoor
open Go Go.Proofs Go.RowKit

/-- Errors are at the end, or do not hang on it. -/
def Er {α : Type} (f : Nat) (m : Rd α) : Prop := ∀ (V : List Tk) (a : Int) (p : Int × Nat), m f (V ++ [tE a]) = .error p → p = (0, 0) ∨ p = (a, 4) ∨ (V ≠ [] ∧ ∀ S' : List Tk, S' ≠ [] → m f (V ++ S') = .error p)
structure EP {α : Type} (f : Nat) (m : Rd α) : Prop where
  pf : Prf f m
  su : Suf f m
  ne : Ne1 f m
  er : Er f m
section
variable {α β : Type} {f : Nat}
theorem Er.bind {m : Rd α} {k : α → Rd β} (h : EP f m) (g : ∀ x, Er f (k x)) : Er f (mBind m k) := fun V a p e => by
  cases hm : m f (V ++ [tE a]) with
  | error q =>
    have e1 : mBind m k f (V ++ [tE a]) = .error q := by show (m f (V ++ [tE a]) >>= _) = _; rw [hm]; rfl
    rw [e1] at e
    cases e
    rcases h.er V a _ hm with e2 | e2 | ⟨e2, e3⟩
    · exact .inl e2
    · exact .inr (.inl e2)
    · refine .inr (.inr ⟨e2, fun S' hS => ?_⟩)
      show (m f (V ++ S') >>= _) = _
      rw [e3 S' hS]; rfl
  | ok q =>
    obtain ⟨x, l1⟩ := q
    have e1 : mBind m k f (V ++ [tE a]) = k x f l1 := by show (m f (V ++ [tE a]) >>= _) = _; rw [hm]; rfl
    rw [e1] at e
    have hsu := h.su _ _ _ hm
    obtain ⟨V1, rfl⟩ := end_suf hsu (h.ne _ _ _ (by simp) hm)
    rcases g x V1 a p e with e2 | e2 | ⟨e2, e3⟩
    · exact .inl e2
    · exact .inr (.inl e2)
    · refine .inr (.inr ⟨?_, fun S' hS => ?_⟩)
      · intro q
        subst q
        have h1 := hsu.length_le
        have h2 := List.length_pos_iff.2 e2
        rw [List.length_append, List.length_append, List.length_nil] at h1
        omega
      · have := h.pf V V1 [tE a] S' x (by simp) hS e2 hm
        show (m f (V ++ S') >>= _) = _
        rw [this]
        exact e3 S' hS
theorem EP.bind {m : Rd α} {k : α → Rd β} (h : EP f m) (g : ∀ x, EP f (k x)) : EP f (mBind m k) :=
  ⟨Prf.bind h.pf (fun x => (g x).pf) (fun x => (g x).su), Suf.bind h.su (fun x => (g x).su), Ne1.bind h.ne (fun x => (g x).ne), Er.bind h fun x => (g x).er⟩
theorem EP.ite {c : Prop} [Decidable c] {m k : Rd α} (h : EP f m) (g : EP f k) : EP f (if c then m else k) := by split <;> assumption
theorem Er.ok {m : Rd α} (q : List Tk → α × List Tk) (hm : ∀ l, m f l = .ok (q l)) : Er f m := fun V a p e => by rw [hm] at e; cases e
theorem EP.ret {x : α} : EP f (mRet x) := ⟨Prf.ret, Suf.ret, neCls.ret, Er.ok (fun l => (x, l)) fun _ => rfl⟩
theorem EP.peek : EP f mPeek := ⟨Prf.peek, Suf.peek, neCls.peek, Er.ok (fun l => (pHd l, l)) fun _ => rfl⟩
theorem EP.take : EP f mTake := ⟨Prf.take, Suf.take, neCls.take, Er.ok (fun l => (pHd l, pTl l)) fun _ => rfl⟩
theorem EP.is {s : List UInt8} : EP f (mIs s) := ⟨Prf.is, Suf.is, neCls.is, Er.ok (fun l => (pIs s l, l)) fun _ => rfl⟩
theorem EP.op {i : Nat} : EP f (mOpI i) := ⟨Prf.op, Suf.op, neCls.op, Er.ok (fun l => (pOp i l, l)) fun _ => rfl⟩
theorem EP.named : EP f mNamed := ⟨Prf.named, Suf.named, neCls.named, Er.ok (fun l => (pNamed (pHd l), l)) fun _ => rfl⟩
theorem Er.test {m : Rd α} (q : Tk → Except (Int × Nat) α) (hm : ∀ l, m f l = tst (q (pHd l)) (pTl l)) (he : ∀ a, q (tE a) = .error (a, 4)) : Er f m := fun V a p e => by
  cases V with
  | nil =>
    rw [hm] at e
    have h0 : q (pHd ([] ++ [tE a])) = .error (a, 4) := he a
    rw [h0] at e
    cases e
    exact .inr (.inl rfl)
  | cons v V =>
    refine .inr (.inr ⟨by simp, fun S' _ => ?_⟩)
    rw [hm] at e ⊢
    have h1 : q (pHd (v :: V ++ S')) = q (pHd (v :: V ++ [tE a])) := rfl
    rw [h1]
    cases hq : q (pHd (v :: V ++ [tE a])) with
    | error z => rw [hq] at e; cases e; rfl
    | ok z => rw [hq] at e; cases e
theorem EP.name : EP f mName := ⟨Prf.name, Suf.name, neCls.name, Er.test _ (name_test f) fun a => rfl⟩
theorem EP.need {s : List UInt8} (h : s ≠ []) : EP f (mNeed s) := ⟨Prf.need, Suf.need, neCls.need, Er.test _ (need_test s f) fun a => by
  unfold qNeed
  rw [if_neg]
  intro q
  have e2 : ([] : List UInt8) = s := by simpa using (show (([] : List UInt8) == s) = true from q)
  exact h e2.symm⟩
theorem EP.enter {s : List UInt8} {d : Nat} (h : s ≠ []) : EP f (mEnter s d) := ⟨Prf.enter, Suf.enter, neCls.enter (d' := d) trivial, Er.test _ (enter_test s d f) fun a => by
  unfold qEnter
  rw [if_neg]
  intro q
  have e2 : ([] : List UInt8) = s := by simpa using (show (([] : List UInt8) == s) = true from q)
  exact h e2.symm⟩
theorem EP.num : EP f mNum := ⟨Prf.num, Suf.num, neCls.num, Er.test _ (num_test f) fun a => rfl⟩
theorem EP.before {s : List UInt8} {w : Want} {d : Nat} (h : EP f (mRead (.list w) d)) : EP f (mBefore s w d) := by
  rw [before_eq]
  exact EP.bind EP.is fun _ => EP.ite EP.ret h
/-- What is done only where a test of the first token holds. -/
theorem Er.guard {q : Tk → Bool} {lk : Rd Bool} (hl : ∀ l, lk f l = .ok (q (pHd l), l)) (hq : ∀ a, q (tE a) = false) {A B : Rd α} (hB : Er f B)
    (hA : ∀ (v : Tk) (V : List Tk) (a : Int) (p : Int × Nat), q v = true → A f (v :: V ++ [tE a]) = .error p → p = (0, 0) ∨ p = (a, 4) ∨ ∀ S' : List Tk, S' ≠ [] → A f (v :: V ++ S') = .error p) :
    Er f (mBind lk fun b => if b = true then A else B) := fun V a p e => by
  have step : ∀ l, (mBind lk fun b => if b = true then A else B) f l = if q (pHd l) = true then A f l else B f l := fun l => by
    show (lk f l >>= fun z => (if z.1 = true then A else B) f z.2) = _
    rw [hl, ok_ebind, ite_rd]
  rw [step] at e
  cases V with
  | nil =>
    rw [if_neg (by show ¬ q (tE a) = true; rw [hq]; simp)] at e
    rcases hB [] a p e with e2 | e2 | ⟨e2, -⟩
    · exact .inl e2
    · exact .inr (.inl e2)
    · exact absurd rfl e2
  | cons v V =>
    by_cases hv : q v = true
    · rw [if_pos (show q (pHd (v :: V ++ [tE a])) = true from hv)] at e
      rcases hA v V a p hv e with e2 | e2 | e2
      · exact .inl e2
      · exact .inr (.inl e2)
      · refine .inr (.inr ⟨by simp, fun S' hS => ?_⟩)
        rw [step, if_pos (show q (pHd (v :: V ++ S')) = true from hv)]
        exact e2 S' hS
    · rw [if_neg (show ¬ q (pHd (v :: V ++ [tE a])) = true from hv)] at e
      rcases hB (v :: V) a p e with e2 | e2 | ⟨-, e2⟩
      · exact .inl e2
      · exact .inr (.inl e2)
      · refine .inr (.inr ⟨by simp, fun S' hS => ?_⟩)
        rw [step, if_neg (show ¬ q (pHd (v :: V ++ S')) = true from hv)]
        exact e2 S' hS
theorem deep_on {d : Nat} {k : Tk → Rd α} (g : ∀ x, Er f (k x)) (v : Tk) (V : List Tk) (a : Int) (p : Int × Nat) (e : mBind (mDeep d) k f (v :: V ++ [tE a]) = .error p) : p = (0, 0) ∨ p = (a, 4) ∨ ∀ S' : List Tk, S' ≠ [] → mBind (mDeep d) k f (v :: V ++ S') = .error p := by
  have step : ∀ S : List Tk, S ≠ [] → mBind (mDeep d) k f (v :: V ++ S) = if d = 64 then .error (v.a, 12) else k v f (V ++ S) := fun S hS => by
    show (mDeep d f (v :: V ++ S) >>= fun z => k z.1 f z.2) = _
    unfold mDeep
    split
    · rfl
    · rw [tl_cons hS]; rfl
  rw [step _ (by simp)] at e
  by_cases h64 : d = 64
  · rw [if_pos h64] at e
    exact .inr (.inr fun S' hS => by rw [step _ hS, if_pos h64]; exact e)
  · rw [if_neg h64] at e
    rcases g v V a p e with e2 | e2 | ⟨-, e2⟩
    · exact .inl e2
    · exact .inr (.inl e2)
    · exact .inr (.inr fun S' hS => by rw [step _ hS, if_neg h64]; exact e2 S' hS)
theorem Er.up {m n : Rd α} (h : Er f m) (e : ∀ l, n (f + 1) l = m f l) : Er (f + 1) n := fun V a p q => by
  rcases h V a p ((e _).symm.trans q) with e2 | e2 | ⟨e2, e3⟩
  · exact .inl e2
  · exact .inr (.inl e2)
  · exact .inr (.inr ⟨e2, fun S' hS => (e _).trans (e3 S' hS)⟩)
end
theorem nm_bad : ∀ l ∈ ([[111, 114], [97, 110, 100], [110, 111, 116], [61], [33, 61], [60], [60, 61], [62], [62, 61], [43], [45], [42], [47], [37], wTrue, wFalse, [40]] : List (List UInt8)), nmE (str l) ≠ 0 := by decide +kernel
theorem named_ne {v : Tk} (h : pNamed v = true) {l : List UInt8} (hl : l ∈ ([[111, 114], [97, 110, 100], [110, 111, 116], [61], [33, 61], [60], [60, 61], [62], [62, 61], [43], [45], [42], [47], [37], wTrue, wFalse, [40]] : List (List UInt8))) : (bytes v.t == l) = false := by
  cases hb : (bytes v.t == l) with
  | false => rfl
  | true =>
    exfalso
    have e : bytes v.t = l := by simpa using hb
    unfold pNamed at h
    rw [Bool.and_eq_true, decide_eq_true_eq, decide_eq_true_eq] at h
    have := h.2
    rw [← str_bytes v.t, e] at this
    exact nm_bad l hl this
theorem named_k {v : Tk} (h : pNamed v = true) : v.k = 0 := by
  unfold pNamed at h
  rw [Bool.and_eq_true, decide_eq_true_eq] at h
  exact h.1
theorem named_op {v : Tk} (h : pNamed v = true) (i : Nat) (r : List Tk) : pOp i (v :: r) = false := by
  show (pOps i).contains (bytes v.t) = false
  unfold pOps
  split <;> simp only [List.contains, List.elem, named_ne h (l := [111, 114]) (by decide), named_ne h (l := [97, 110, 100]) (by decide), named_ne h (l := [110, 111, 116]) (by decide), named_ne h (l := [61]) (by decide), named_ne h (l := [33, 61]) (by decide), named_ne h (l := [60]) (by decide), named_ne h (l := [60, 61]) (by decide), named_ne h (l := [62]) (by decide), named_ne h (l := [62, 61]) (by decide), named_ne h (l := [43]) (by decide), named_ne h (l := [45]) (by decide), named_ne h (l := [42]) (by decide), named_ne h (l := [47]) (by decide), named_ne h (l := [37]) (by decide)]
/-- A name alone. -/
theorem place_one (f d : Nat) {v : Tk} (h : pNamed v = true) (a : Int) : (∃ x, pRead f .place d [v, tE a] = .ok (x, [tE a])) ∨ pRead f .place d [v, tE a] = .error (0, 0) := by
  cases f with
  | zero => exact .inr (by rw [pRead])
  | succ f =>
    left
    refine ⟨[pLeaf 18 v], ?_⟩
    rw [pRead]
    unfold pName
    rw [if_pos (show pNamed (pHd [v, tE a]) = true from h)]
    have h0 : pIs [46] [tE a] = false := is_end (by decide) a
    rw [ok_ebind]
    dsimp only
    rw [if_neg (by show ¬ pIs [46] (pTl [v, tE a]) = true; rw [show pTl [v, tE a] = [tE a] from rfl, h0]; simp)]
    rfl
theorem lvl_one {v : Tk} (h : pNamed v = true) (a : Int) : ∀ (f i d : Nat), 4 ≤ i → (∃ x, pRead f (.lvl i) d [v, tE a] = .ok (x, [tE a])) ∨ pRead f (.lvl i) d [v, tE a] = .error (0, 0)
  | 0, i, d, _ => .inr (by rw [pRead])
  | f + 1, i, d, hi => by
    have ih := lvl_one h a f
    rw [pRead]
    by_cases h1 : i = 2 ∨ i = 6
    · rw [if_pos h1, if_neg (by rw [named_op h]; simp)]
      exact ih _ _ (by omega)
    · rw [if_neg h1, if_neg (by omega)]
      by_cases h7 : 7 ≤ i
      · rw [if_pos h7, if_neg (by show ¬ v.k = 1; rw [named_k h]; decide), if_neg (by
          show ¬ ((bytes v.t == wTrue) = true ∨ (bytes v.t == wFalse) = true)
          rw [named_ne h (by decide), named_ne h (by decide)]; simp), if_neg (by show ¬ (bytes v.t == [40]) = true; rw [named_ne h (by decide)]; simp)]
        exact place_one f d h a
      · rw [if_neg h7]
        rcases ih (i + 1) d (by omega) with ⟨x, hx⟩ | hx
        · rw [hx]
          show (∃ y, pRead f (.rep i v.a x) d [tE a] = .ok (y, [tE a])) ∨ pRead f (.rep i v.a x) d [tE a] = .error (0, 0)
          cases f with
          | zero => exact .inr (by rw [pRead])
          | succ f =>
            left
            exact ⟨x, by rw [pRead, if_neg (by rw [op_end]; simp)]⟩
        · rw [hx]
          exact .inr rfl
theorem assign_one (f d : Nat) {v : Tk} (h : pNamed v = true) (a : Int) {p : Int × Nat} (e : mAssign d f [v, tE a] = .error p) : p = (0, 0) ∨ p = (a, 4) := by
  have hl : (∃ x, pRead f (.list .place) d [v, tE a] = .ok (x, [tE a])) ∨ pRead f (.list .place) d [v, tE a] = .error (0, 0) := by
    cases f with
    | zero => exact .inr (by rw [pRead])
    | succ f =>
      rw [pRead]
      rcases place_one f d h a with ⟨x, hx⟩ | hx
      · left
        rw [hx]
        refine ⟨x, ?_⟩
        have h0 : pIs [44] [tE a] = false := is_end (by decide) a
        rw [ok_ebind]
        dsimp only
        rw [if_neg (by rw [h0]; simp)]
        rfl
      · rw [hx]; exact .inr rfl
  unfold mAssign at e
  rcases hl with ⟨x, hx⟩ | hx
  · have e1 : (mBind (mNeed [58, 61]) fun _ => mBind (mRead .right d) fun y => mBind (mNeed [59]) fun _ => mRet [Syn.mk 9 v.a ⟨#[]⟩ 0 (.mk 3 v.a ⟨#[]⟩ 0 x :: y)]) f [tE a] = .error p := by
      rw [← e]
      show _ = (mPeek f [v, tE a] >>= _)
      show _ = ((mRead (.list .place) d) f [v, tE a] >>= _)
      unfold mRead
      rw [hx]
      rfl
    have e2 : mNeed [58, 61] f [tE a] = .error (a, 4) := by
      unfold mNeed
      rw [if_neg (by rw [is_end (by decide)]; simp)]
      rfl
    have e3 : (mNeed [58, 61] f [tE a] >>= fun z => (mBind (mRead .right d) fun y => mBind (mNeed [59]) fun _ => mRet [Syn.mk 9 v.a ⟨#[]⟩ 0 (.mk 3 v.a ⟨#[]⟩ 0 x :: y)]) f z.2) = .error p := e1
    rw [e2] at e3
    cases e3
    exact .inr rfl
  · have e1 : ((mRead (.list .place) d) f [v, tE a] >>= fun z => (mBind (mNeed [58, 61]) fun _ => mBind (mRead .right d) fun y => mBind (mNeed [59]) fun _ => mRet [Syn.mk 9 v.a ⟨#[]⟩ 0 (.mk 3 v.a ⟨#[]⟩ 0 z.1 :: y)]) f z.2) = .error p := e
    unfold mRead at e1
    rw [hx] at e1
    cases e1
    exact .inl rfl
set_option maxHeartbeats 2000000 in
theorem er_read : ∀ (f : Nat) (w : Want) (d : Nat), Er f (mRead w d) := by
  intro f
  induction f with
  | zero => intro w d V a p e; unfold mRead at e; rw [pRead] at e; cases e; exact .inl rfl
  | succ f ih0 =>
    have ih : ∀ w d, EP f (mRead w d) := fun w d => ⟨prf_read f w d, suf_read f w d, ne_read f w d, ih0 w d⟩
    intro w d
    cases w with
    | lvl i =>
      refine Er.up ?_ (fun l => eqI_lvl (a := 0) (x := []) (w := .bare) f l)
      unfold mLvl
      split
      · refine Er.guard (q := fun t => (pOps i).contains (bytes t.t)) (fun l => rfl) (fun a => op_end i a) (ih0 _ _) ?_
        intro v V a p _ e
        exact deep_on (fun _ => (EP.bind (ih _ _) fun _ => EP.ret).er) v V a p e
      · split
        · exact (show EP f _ by repeat' (first | with_reducible exact EP.take | with_reducible exact EP.op | with_reducible exact EP.peek | with_reducible exact EP.is | with_reducible exact EP.named | with_reducible exact EP.name | with_reducible exact EP.need (by decide) | with_reducible exact EP.enter (by decide) | with_reducible exact EP.num | with_reducible exact EP.ret | with_reducible exact ih _ _ | with_reducible exact EP.before (ih _ _) | (with_reducible refine EP.bind ?_ (fun _ => ?_)) | (with_reducible refine EP.ite ?_ ?_) | (unfold mStore) | (unfold mCallSt) | (unfold mAssign) | (unfold mChoice) | (unfold mLoop) | (unfold mClaim) | (unfold mVars) | (unfold mArray) | (unfold mParams) | (unfold mResults) | (unfold mWhen))).er
        · split
          · refine Er.bind EP.peek fun p => ?_
            split
            · exact (EP.bind EP.take fun _ => EP.ret).er
            · refine Er.bind EP.is fun b1 => Er.bind EP.is fun b2 => ?_
              split
              · exact (EP.bind EP.take fun _ => EP.ret).er
              · refine Er.guard (q := fun t => bytes t.t == [40]) (fun l => rfl) (fun a => rfl) (ih0 _ _) ?_
                intro v V a p _ e
                exact deep_on (fun _ => (EP.bind (ih _ _) fun _ => EP.bind (EP.need (by decide)) fun _ => EP.ret).er) v V a p e
          · exact (show EP f _ by repeat' (first | with_reducible exact EP.take | with_reducible exact EP.op | with_reducible exact EP.peek | with_reducible exact EP.is | with_reducible exact EP.named | with_reducible exact EP.name | with_reducible exact EP.need (by decide) | with_reducible exact EP.enter (by decide) | with_reducible exact EP.num | with_reducible exact EP.ret | with_reducible exact ih _ _ | with_reducible exact EP.before (ih _ _) | (with_reducible refine EP.bind ?_ (fun _ => ?_)) | (with_reducible refine EP.ite ?_ ?_) | (unfold mStore) | (unfold mCallSt) | (unfold mAssign) | (unfold mChoice) | (unfold mLoop) | (unfold mClaim) | (unfold mVars) | (unfold mArray) | (unfold mParams) | (unfold mResults) | (unfold mWhen))).er
    | cond => exact Er.up (ih0 (.lvl 0) d) (fun l => by unfold mRead; rw [pRead])
    | right =>
      refine Er.up ?_ (fun l => eq_right f l)
      unfold mRight
      refine Er.bind EP.is fun b => ?_
      split
      · exact (EP.bind EP.take fun _ => EP.ret).er
      · intro V a p e
        have step : ∀ l, (mBind mNamed fun n => mBind mNext fun x => if n = true ∧ x = [91] then mRead .load d else if n = true ∧ x = [40] then mRead .call d else mRead (.lvl 4) d) f l = (if pNamed (pHd l) = true ∧ pNext l = [91] then mRead .load d else if pNamed (pHd l) = true ∧ pNext l = [40] then mRead .call d else mRead (.lvl 4) d) f l := fun l => rfl
        rw [step] at e
        match V, e with
        | [], e =>
          have hn : ¬ pNamed (pHd ([] ++ [tE a])) = true := by show ¬ pNamed (tE a) = true; intro q; cases q
          rw [if_neg (fun q => hn q.1), if_neg (fun q => hn q.1)] at e
          rcases ih0 _ _ [] a p e with e2 | e2 | ⟨e2, -⟩
          · exact .inl e2
          · exact .inr (.inl e2)
          · exact absurd rfl e2
        | [v], e =>
          have hx : pNext ([v] ++ [tE a]) = [] := rfl
          rw [hx, if_neg (fun q => by cases q.2), if_neg (fun q => by cases q.2)] at e
          by_cases hn : pNamed v = true
          · rcases lvl_one hn a f 4 d (by omega) with ⟨x, hx⟩ | hx
            · rw [show mRead (.lvl 4) d f ([v] ++ [tE a]) = _ from hx] at e; cases e
            · rw [show mRead (.lvl 4) d f ([v] ++ [tE a]) = _ from hx] at e; cases e; exact .inl rfl
          · rcases ih0 _ _ [v] a p e with e2 | e2 | ⟨-, e2⟩
            · exact .inl e2
            · exact .inr (.inl e2)
            · refine .inr (.inr ⟨by simp, fun S' hS => ?_⟩)
              rw [step, if_neg (fun q => hn q.1), if_neg (fun q => hn q.1)]
              exact e2 S' hS
        | v :: u :: V, e =>
          have hs : ∀ S' : List Tk, (if pNamed (pHd (v :: u :: V ++ S')) = true ∧ pNext (v :: u :: V ++ S') = [91] then mRead .load d else if pNamed (pHd (v :: u :: V ++ S')) = true ∧ pNext (v :: u :: V ++ S') = [40] then mRead .call d else mRead (.lvl 4) d) = (if pNamed v = true ∧ bytes u.t = [91] then mRead .load d else if pNamed v = true ∧ bytes u.t = [40] then mRead .call d else mRead (.lvl 4) d) := fun S' => rfl
          rw [hs] at e
          have key : Er f (if pNamed v = true ∧ bytes u.t = [91] then mRead .load d else if pNamed v = true ∧ bytes u.t = [40] then mRead .call d else mRead (.lvl 4) d) := by
            split
            · exact ih0 _ _
            · split <;> exact ih0 _ _
          rcases key (v :: u :: V) a p e with e2 | e2 | ⟨-, e2⟩
          · exact .inl e2
          · exact .inr (.inl e2)
          · refine .inr (.inr ⟨by simp, fun S' hS => ?_⟩)
            rw [step, hs]
            exact e2 S' hS
    | stmt =>
      refine Er.up ?_ (fun l => eq_stmt f l)
      unfold mStmt
      have hA : EP f (mAssign d) := by repeat' (first | with_reducible exact EP.take | with_reducible exact EP.op | with_reducible exact EP.peek | with_reducible exact EP.is | with_reducible exact EP.named | with_reducible exact EP.name | with_reducible exact EP.need (by decide) | with_reducible exact EP.enter (by decide) | with_reducible exact EP.num | with_reducible exact EP.ret | with_reducible exact ih _ _ | with_reducible exact EP.before (ih _ _) | (with_reducible refine EP.bind ?_ (fun _ => ?_)) | (with_reducible refine EP.ite ?_ ?_) | (unfold mStore) | (unfold mCallSt) | (unfold mAssign) | (unfold mChoice) | (unfold mLoop) | (unfold mClaim) | (unfold mVars) | (unfold mArray) | (unfold mParams) | (unfold mResults) | (unfold mWhen))
      have hS : EP f (mStore d) := by repeat' (first | with_reducible exact EP.take | with_reducible exact EP.op | with_reducible exact EP.peek | with_reducible exact EP.is | with_reducible exact EP.named | with_reducible exact EP.name | with_reducible exact EP.need (by decide) | with_reducible exact EP.enter (by decide) | with_reducible exact EP.num | with_reducible exact EP.ret | with_reducible exact ih _ _ | with_reducible exact EP.before (ih _ _) | (with_reducible refine EP.bind ?_ (fun _ => ?_)) | (with_reducible refine EP.ite ?_ ?_) | (unfold mStore) | (unfold mCallSt) | (unfold mAssign) | (unfold mChoice) | (unfold mLoop) | (unfold mClaim) | (unfold mVars) | (unfold mArray) | (unfold mParams) | (unfold mResults) | (unfold mWhen))
      have hC : EP f (mCallSt d) := by repeat' (first | with_reducible exact EP.take | with_reducible exact EP.op | with_reducible exact EP.peek | with_reducible exact EP.is | with_reducible exact EP.named | with_reducible exact EP.name | with_reducible exact EP.need (by decide) | with_reducible exact EP.enter (by decide) | with_reducible exact EP.num | with_reducible exact EP.ret | with_reducible exact ih _ _ | with_reducible exact EP.before (ih _ _) | (with_reducible refine EP.bind ?_ (fun _ => ?_)) | (with_reducible refine EP.ite ?_ ?_) | (unfold mStore) | (unfold mCallSt) | (unfold mAssign) | (unfold mChoice) | (unfold mLoop) | (unfold mClaim) | (unfold mVars) | (unfold mArray) | (unfold mParams) | (unfold mResults) | (unfold mWhen))
      refine Er.guard (q := pNamed) (fun l => rfl) (fun a => rfl) ?_ ?_
      · exact (show EP f _ by repeat' (first | with_reducible exact EP.take | with_reducible exact EP.op | with_reducible exact EP.peek | with_reducible exact EP.is | with_reducible exact EP.named | with_reducible exact EP.name | with_reducible exact EP.need (by decide) | with_reducible exact EP.enter (by decide) | with_reducible exact EP.num | with_reducible exact EP.ret | with_reducible exact ih _ _ | with_reducible exact EP.before (ih _ _) | (with_reducible refine EP.bind ?_ (fun _ => ?_)) | (with_reducible refine EP.ite ?_ ?_) | (unfold mStore) | (unfold mCallSt) | (unfold mAssign) | (unfold mChoice) | (unfold mLoop) | (unfold mClaim) | (unfold mVars) | (unfold mArray) | (unfold mParams) | (unfold mResults) | (unfold mWhen))).er
      · intro v V a p hv e
        have step : ∀ l, (mBind mNext fun x => if x = [91] then mStore d else if x = [40] then mCallSt d else mAssign d) f l = (if pNext l = [91] then mStore d else if pNext l = [40] then mCallSt d else mAssign d) f l := fun l => rfl
        rw [step] at e
        cases V with
        | nil =>
          have hx : pNext ([v] ++ [tE a]) = [] := rfl
          rw [hx, if_neg (by decide), if_neg (by decide)] at e
          rcases assign_one f d hv a e with q | q
          · exact .inl q
          · exact .inr (.inl q)
        | cons u V =>
          have hs : ∀ S' : List Tk, (if pNext (v :: u :: V ++ S') = [91] then mStore d else if pNext (v :: u :: V ++ S') = [40] then mCallSt d else mAssign d) = (if bytes u.t = [91] then mStore d else if bytes u.t = [40] then mCallSt d else mAssign d) := fun S' => rfl
          rw [hs] at e
          have key : Er f (if bytes u.t = [91] then mStore d else if bytes u.t = [40] then mCallSt d else mAssign d) := by
            split
            · exact hS.er
            · split
              · exact hC.er
              · exact hA.er
          rcases key (v :: u :: V) a p e with e2 | e2 | ⟨-, e2⟩
          · exact .inl e2
          · exact .inr (.inl e2)
          · refine .inr (.inr fun S' hS => ?_)
            rw [step, hs]
            exact e2 S' hS
    | rep i a x =>
      refine Er.up ?_ (fun l => eqI_rep (w := .bare) f l)
      unfold mRepI
      exact (show EP f _ by repeat' (first | with_reducible exact EP.take | with_reducible exact EP.op | with_reducible exact EP.peek | with_reducible exact EP.is | with_reducible exact EP.named | with_reducible exact EP.name | with_reducible exact EP.need (by decide) | with_reducible exact EP.enter (by decide) | with_reducible exact EP.num | with_reducible exact EP.ret | with_reducible exact ih _ _ | with_reducible exact EP.before (ih _ _) | (with_reducible refine EP.bind ?_ (fun _ => ?_)) | (with_reducible refine EP.ite ?_ ?_) | (unfold mStore) | (unfold mCallSt) | (unfold mAssign) | (unfold mChoice) | (unfold mLoop) | (unfold mClaim) | (unfold mVars) | (unfold mArray) | (unfold mParams) | (unfold mResults) | (unfold mWhen))).er
    | bare =>
      refine Er.up ?_ (fun l => eqI_bare (i := 0) (a := 0) (x := []) (w := .bare) f l)
      unfold mBareI
      exact (show EP f _ by repeat' (first | with_reducible exact EP.take | with_reducible exact EP.op | with_reducible exact EP.peek | with_reducible exact EP.is | with_reducible exact EP.named | with_reducible exact EP.name | with_reducible exact EP.need (by decide) | with_reducible exact EP.enter (by decide) | with_reducible exact EP.num | with_reducible exact EP.ret | with_reducible exact ih _ _ | with_reducible exact EP.before (ih _ _) | (with_reducible refine EP.bind ?_ (fun _ => ?_)) | (with_reducible refine EP.ite ?_ ?_) | (unfold mStore) | (unfold mCallSt) | (unfold mAssign) | (unfold mChoice) | (unfold mLoop) | (unfold mClaim) | (unfold mVars) | (unfold mArray) | (unfold mParams) | (unfold mResults) | (unfold mWhen))).er
    | place =>
      refine Er.up ?_ (fun l => eqI_place (i := 0) (a := 0) (x := []) (w := .bare) f l)
      unfold mPlaceI
      exact (show EP f _ by repeat' (first | with_reducible exact EP.take | with_reducible exact EP.op | with_reducible exact EP.peek | with_reducible exact EP.is | with_reducible exact EP.named | with_reducible exact EP.name | with_reducible exact EP.need (by decide) | with_reducible exact EP.enter (by decide) | with_reducible exact EP.num | with_reducible exact EP.ret | with_reducible exact ih _ _ | with_reducible exact EP.before (ih _ _) | (with_reducible refine EP.bind ?_ (fun _ => ?_)) | (with_reducible refine EP.ite ?_ ?_) | (unfold mStore) | (unfold mCallSt) | (unfold mAssign) | (unfold mChoice) | (unfold mLoop) | (unfold mClaim) | (unfold mVars) | (unfold mArray) | (unfold mParams) | (unfold mResults) | (unfold mWhen))).er
    | param =>
      refine Er.up ?_ (fun l => eqI_param (i := 0) (a := 0) (x := []) (w := .bare) f l)
      unfold mParamI
      exact (show EP f _ by repeat' (first | with_reducible exact EP.take | with_reducible exact EP.op | with_reducible exact EP.peek | with_reducible exact EP.is | with_reducible exact EP.named | with_reducible exact EP.name | with_reducible exact EP.need (by decide) | with_reducible exact EP.enter (by decide) | with_reducible exact EP.num | with_reducible exact EP.ret | with_reducible exact ih _ _ | with_reducible exact EP.before (ih _ _) | (with_reducible refine EP.bind ?_ (fun _ => ?_)) | (with_reducible refine EP.ite ?_ ?_) | (unfold mStore) | (unfold mCallSt) | (unfold mAssign) | (unfold mChoice) | (unfold mLoop) | (unfold mClaim) | (unfold mVars) | (unfold mArray) | (unfold mParams) | (unfold mResults) | (unfold mWhen))).er
    | list w =>
      refine Er.up ?_ (fun l => eqI_list (i := 0) (a := 0) (x := []) f l)
      unfold mListI
      exact (show EP f _ by repeat' (first | with_reducible exact EP.take | with_reducible exact EP.op | with_reducible exact EP.peek | with_reducible exact EP.is | with_reducible exact EP.named | with_reducible exact EP.name | with_reducible exact EP.need (by decide) | with_reducible exact EP.enter (by decide) | with_reducible exact EP.num | with_reducible exact EP.ret | with_reducible exact ih _ _ | with_reducible exact EP.before (ih _ _) | (with_reducible refine EP.bind ?_ (fun _ => ?_)) | (with_reducible refine EP.ite ?_ ?_) | (unfold mStore) | (unfold mCallSt) | (unfold mAssign) | (unfold mChoice) | (unfold mLoop) | (unfold mClaim) | (unfold mVars) | (unfold mArray) | (unfold mParams) | (unfold mResults) | (unfold mWhen))).er
    | load =>
      refine Er.up ?_ (fun l => eq_load f l)
      unfold mLoad
      exact (show EP f _ by repeat' (first | with_reducible exact EP.take | with_reducible exact EP.op | with_reducible exact EP.peek | with_reducible exact EP.is | with_reducible exact EP.named | with_reducible exact EP.name | with_reducible exact EP.need (by decide) | with_reducible exact EP.enter (by decide) | with_reducible exact EP.num | with_reducible exact EP.ret | with_reducible exact ih _ _ | with_reducible exact EP.before (ih _ _) | (with_reducible refine EP.bind ?_ (fun _ => ?_)) | (with_reducible refine EP.ite ?_ ?_) | (unfold mStore) | (unfold mCallSt) | (unfold mAssign) | (unfold mChoice) | (unfold mLoop) | (unfold mClaim) | (unfold mVars) | (unfold mArray) | (unfold mParams) | (unfold mResults) | (unfold mWhen))).er
    | call =>
      refine Er.up ?_ (fun l => eq_call f l)
      unfold mCall
      exact (show EP f _ by repeat' (first | with_reducible exact EP.take | with_reducible exact EP.op | with_reducible exact EP.peek | with_reducible exact EP.is | with_reducible exact EP.named | with_reducible exact EP.name | with_reducible exact EP.need (by decide) | with_reducible exact EP.enter (by decide) | with_reducible exact EP.num | with_reducible exact EP.ret | with_reducible exact ih _ _ | with_reducible exact EP.before (ih _ _) | (with_reducible refine EP.bind ?_ (fun _ => ?_)) | (with_reducible refine EP.ite ?_ ?_) | (unfold mStore) | (unfold mCallSt) | (unfold mAssign) | (unfold mChoice) | (unfold mLoop) | (unfold mClaim) | (unfold mVars) | (unfold mArray) | (unfold mParams) | (unfold mResults) | (unfold mWhen))).er
    | block =>
      refine Er.up ?_ (fun l => eq_block f l)
      unfold mBlock
      exact (show EP f _ by repeat' (first | with_reducible exact EP.take | with_reducible exact EP.op | with_reducible exact EP.peek | with_reducible exact EP.is | with_reducible exact EP.named | with_reducible exact EP.name | with_reducible exact EP.need (by decide) | with_reducible exact EP.enter (by decide) | with_reducible exact EP.num | with_reducible exact EP.ret | with_reducible exact ih _ _ | with_reducible exact EP.before (ih _ _) | (with_reducible refine EP.bind ?_ (fun _ => ?_)) | (with_reducible refine EP.ite ?_ ?_) | (unfold mStore) | (unfold mCallSt) | (unfold mAssign) | (unfold mChoice) | (unfold mLoop) | (unfold mClaim) | (unfold mVars) | (unfold mArray) | (unfold mParams) | (unfold mResults) | (unfold mWhen))).er
    | chain a =>
      refine Er.up ?_ (fun l => eq_chain f l)
      unfold mChain
      exact (show EP f _ by repeat' (first | with_reducible exact EP.take | with_reducible exact EP.op | with_reducible exact EP.peek | with_reducible exact EP.is | with_reducible exact EP.named | with_reducible exact EP.name | with_reducible exact EP.need (by decide) | with_reducible exact EP.enter (by decide) | with_reducible exact EP.num | with_reducible exact EP.ret | with_reducible exact ih _ _ | with_reducible exact EP.before (ih _ _) | (with_reducible refine EP.bind ?_ (fun _ => ?_)) | (with_reducible refine EP.ite ?_ ?_) | (unfold mStore) | (unfold mCallSt) | (unfold mAssign) | (unfold mChoice) | (unfold mLoop) | (unfold mClaim) | (unfold mVars) | (unfold mArray) | (unfold mParams) | (unfold mResults) | (unfold mWhen))).er
    | body =>
      refine Er.up ?_ (fun l => eq_body f l)
      unfold mBody
      exact (show EP f _ by repeat' (first | with_reducible exact EP.take | with_reducible exact EP.op | with_reducible exact EP.peek | with_reducible exact EP.is | with_reducible exact EP.named | with_reducible exact EP.name | with_reducible exact EP.need (by decide) | with_reducible exact EP.enter (by decide) | with_reducible exact EP.num | with_reducible exact EP.ret | with_reducible exact ih _ _ | with_reducible exact EP.before (ih _ _) | (with_reducible refine EP.bind ?_ (fun _ => ?_)) | (with_reducible refine EP.ite ?_ ?_) | (unfold mStore) | (unfold mCallSt) | (unfold mAssign) | (unfold mChoice) | (unfold mLoop) | (unfold mClaim) | (unfold mVars) | (unfold mArray) | (unfold mParams) | (unfold mResults) | (unfold mWhen))).er
    | record =>
      refine Er.up ?_ (fun l => eq_record f l)
      unfold mRecord
      exact (show EP f _ by repeat' (first | with_reducible exact EP.take | with_reducible exact EP.op | with_reducible exact EP.peek | with_reducible exact EP.is | with_reducible exact EP.named | with_reducible exact EP.name | with_reducible exact EP.need (by decide) | with_reducible exact EP.enter (by decide) | with_reducible exact EP.num | with_reducible exact EP.ret | with_reducible exact ih _ _ | with_reducible exact EP.before (ih _ _) | (with_reducible refine EP.bind ?_ (fun _ => ?_)) | (with_reducible refine EP.ite ?_ ?_) | (unfold mStore) | (unfold mCallSt) | (unfold mAssign) | (unfold mChoice) | (unfold mLoop) | (unfold mClaim) | (unfold mVars) | (unfold mArray) | (unfold mParams) | (unfold mResults) | (unfold mWhen))).er
    | proc =>
      refine Er.up ?_ (fun l => eq_proc f l)
      unfold mProc
      exact (show EP f _ by repeat' (first | with_reducible exact EP.take | with_reducible exact EP.op | with_reducible exact EP.peek | with_reducible exact EP.is | with_reducible exact EP.named | with_reducible exact EP.name | with_reducible exact EP.need (by decide) | with_reducible exact EP.enter (by decide) | with_reducible exact EP.num | with_reducible exact EP.ret | with_reducible exact ih _ _ | with_reducible exact EP.before (ih _ _) | (with_reducible refine EP.bind ?_ (fun _ => ?_)) | (with_reducible refine EP.ite ?_ ?_) | (unfold mStore) | (unfold mCallSt) | (unfold mAssign) | (unfold mChoice) | (unfold mLoop) | (unfold mClaim) | (unfold mVars) | (unfold mArray) | (unfold mParams) | (unfold mResults) | (unfold mWhen))).er
    | decls =>
      refine Er.up ?_ (fun l => eq_decls f l)
      unfold mDecls
      exact (show EP f _ by repeat' (first | with_reducible exact EP.take | with_reducible exact EP.op | with_reducible exact EP.peek | with_reducible exact EP.is | with_reducible exact EP.named | with_reducible exact EP.name | with_reducible exact EP.need (by decide) | with_reducible exact EP.enter (by decide) | with_reducible exact EP.num | with_reducible exact EP.ret | with_reducible exact ih _ _ | with_reducible exact EP.before (ih _ _) | (with_reducible refine EP.bind ?_ (fun _ => ?_)) | (with_reducible refine EP.ite ?_ ?_) | (unfold mStore) | (unfold mCallSt) | (unfold mAssign) | (unfold mChoice) | (unfold mLoop) | (unfold mClaim) | (unfold mVars) | (unfold mArray) | (unfold mParams) | (unfold mResults) | (unfold mWhen))).er
    | stmts =>
      refine Er.up ?_ (fun l => eq_stmts f l)
      unfold mStmts
      exact (show EP f _ by repeat' (first | with_reducible exact EP.take | with_reducible exact EP.op | with_reducible exact EP.peek | with_reducible exact EP.is | with_reducible exact EP.named | with_reducible exact EP.name | with_reducible exact EP.need (by decide) | with_reducible exact EP.enter (by decide) | with_reducible exact EP.num | with_reducible exact EP.ret | with_reducible exact ih _ _ | with_reducible exact EP.before (ih _ _) | (with_reducible refine EP.bind ?_ (fun _ => ?_)) | (with_reducible refine EP.ite ?_ ?_) | (unfold mStore) | (unfold mCallSt) | (unfold mAssign) | (unfold mChoice) | (unfold mLoop) | (unfold mClaim) | (unfold mVars) | (unfold mArray) | (unfold mParams) | (unfold mResults) | (unfold mWhen))).er
    | program a =>
      refine Er.up ?_ (fun l => eq_program f l)
      unfold mProgram
      exact (show EP f _ by repeat' (first | with_reducible exact EP.take | with_reducible exact EP.op | with_reducible exact EP.peek | with_reducible exact EP.is | with_reducible exact EP.named | with_reducible exact EP.name | with_reducible exact EP.need (by decide) | with_reducible exact EP.enter (by decide) | with_reducible exact EP.num | with_reducible exact EP.ret | with_reducible exact ih _ _ | with_reducible exact EP.before (ih _ _) | (with_reducible refine EP.bind ?_ (fun _ => ?_)) | (with_reducible refine EP.ite ?_ ?_) | (unfold mStore) | (unfold mCallSt) | (unfold mAssign) | (unfold mChoice) | (unfold mLoop) | (unfold mClaim) | (unfold mVars) | (unfold mArray) | (unfold mParams) | (unfold mResults) | (unfold mWhen))).er
end Go.Proofs.YtdibcllakkjegaaGreatDoor

/-
  parser: mathematics of the law ParserCuts.
-/
set_option linter.unusedSimpArgs false
set_option linter.unusedVariables false
namespace Go.Proofs.YtdibcllakkjegaaGreatDoor
open Go Go.Proofs Go.RowKit

theorem sk_cut : ∀ (b : Bool) (l : List UInt8) (m : Nat), skM b (l.take m) = min (skM b l) m
  | b, [], m => by rw [List.take_nil, skN]; simp
  | b, c :: l, 0 => by rw [List.take_zero, skN]; simp
  | false, c :: l, m + 1 => by
    have i1 := sk_cut false l m
    have i2 := sk_cut true l m
    rw [List.take_succ_cons, skF, skF]
    split
    · rw [i1]; omega
    · split
      · rw [i2]; omega
      · omega
  | true, c :: l, m + 1 => by
    have i1 := sk_cut false l m
    have i2 := sk_cut true l m
    rw [List.take_succ_cons, skT, skT]
    split
    · rw [i1]; omega
    · rw [i2]; omega
/-- The tokens of a text that ends before its last token. -/
theorem sq_cut : ∀ (f a : Nat) (l : List UInt8) (V : List (Int × List UInt8 × Nat)) (t e : Int × List UInt8 × Nat), l.length < f → (sq f a l).2.2 = 0 → (sq f a l).1 = V ++ [t, e] → a ≤ t.2.2 ∧ t.2.2 ≤ a + l.length ∧ (sq f a (l.take (t.2.2 - a))).1 = V ++ [(3, [], t.2.2)] ∧ (sq f a (l.take (t.2.2 - a))).2.2 = 0
  | 0, _, _, _, _, _, h, _, _ => by omega
  | f + 1, a, l, V, t, e, h, h0, h1 => by
    rcases sq_cases f a l with ⟨-, -, e1⟩ | ⟨k, m, hk, hm, hne, hl, -, he, e1⟩ | ⟨k, x, z, hk, hm, hx, hl, -, ht, -, he, htx, e1⟩
    · rw [e1] at h1
      have := congrArg List.length h1
      simp at this
    · rw [e1] at h0; exact absurd h0 he
    · have hp : 0 < x.length := List.length_pos_iff.2 hx
      rw [e1] at h0 h1
      cases V with
      | nil =>
        rw [List.nil_append, List.cons.injEq] at h1
        obtain ⟨rfl, h2⟩ := h1
        dsimp only
        have hs := sk_cut false l (a + k - a)
        rw [hk, show a + k - a = k by omega, Nat.min_self] at hs
        have hlen : (l.take k).length = k := by rw [List.length_take]; omega
        have e2 : sq (f + 1) a (l.take k) = ([(3, [], a + k)], 0, 0) := by
          rw [sq, hs, if_pos (List.drop_eq_nil_of_le (by omega))]
        rw [show a + k - a = k by omega, e2]
        exact ⟨by omega, by omega, rfl, rfl⟩
      | cons v V =>
        rw [List.cons_append, List.cons.injEq] at h1
        obtain ⟨rfl, h2⟩ := h1
        obtain ⟨i1, i2, i3, i4⟩ := sq_cut f (a + k + x.length) z V t e (by omega) h0 h2
        refine ⟨by omega, by omega, ?_⟩
        have hs := sk_cut false l (t.2.2 - a)
        rw [hk, Nat.min_eq_left (by omega)] at hs
        have hd : (l.take (t.2.2 - a)).drop k = x ++ z.take (t.2.2 - (a + k + x.length)) := by
          rw [List.drop_take, hm, List.take_append, List.take_of_length_le (by omega)]
          congr 2
          omega
        have htn : tn (x ++ z.take (t.2.2 - (a + k + x.length))) = x.length := by
          by_cases hz : z.take (t.2.2 - (a + k + x.length)) = []
          · rw [hz, List.append_nil]; exact htx
          · have := (tn_app hx hz (z.drop (t.2.2 - (a + k + x.length)))).1
            rw [List.take_append_drop] at this
            exact this ht
        have e2 := sq_tok (f := f) (a := a) hs hd hx htn he
        rw [e2]
        exact ⟨by rw [i3]; rfl, i4⟩
/-- The tokens of the text before its last token. -/
theorem cut_toks {s : ByteArray} {V : List Tk} {t : Tk} {e : Int} (he : (scR s).2.2 = 0) (hV : (scR s).1 = V ++ [t, tE e]) : (0 ≤ t.a ∧ t.a ≤ s.size) ∧ (scR (s.extract 0 t.a.toNat)).2.2 = 0 ∧ (scR (s.extract 0 t.a.toNat)).1 = V ++ [tE t.a] := by
  have hz := scan_long he
  obtain ⟨q, e1, -⟩ := scR_ok hz he
  rw [e1] at hV
  obtain ⟨V1, W, h1, h2, h3⟩ := List.map_eq_append_iff.1 hV
  obtain ⟨u, W, rfl, rfl, h4⟩ := List.map_eq_cons_iff.1 h3
  obtain ⟨u2, W, rfl, h5, h6⟩ := List.map_eq_cons_iff.1 h4
  obtain rfl := List.map_eq_nil_iff.1 h6
  obtain ⟨c1, c2, c3, c4⟩ := sq_cut ((bytes s).length + 1) 0 (bytes s) V1 u u2 (Nat.lt_succ_self _) q h1
  rw [bytes_length] at c2
  rw [Nat.sub_zero] at c3 c4
  have ha : (toTk u).a = ((u.2.2 : Nat) : Int) := rfl
  have hat : (toTk u).a.toNat = u.2.2 := by rw [ha, Int.toNat_natCast]
  have hb : bytes (s.extract 0 u.2.2) = (bytes s).take u.2.2 := by rw [extract_take, bytes_str]
  have hsz : (s.extract 0 u.2.2).size ≤ 65536 := by rw [← bytes_length, hb, List.length_take, bytes_length]; omega
  have hq : sqR (bytes (s.extract 0 u.2.2)) = sq ((bytes s).length + 1) 0 ((bytes s).take u.2.2) := by
    rw [hb]
    exact sq_fuel _ _ _ _ (Nat.lt_succ_self _) (by rw [List.length_take]; omega)
  refine ⟨⟨by rw [ha]; exact Int.natCast_nonneg _, by rw [ha]; omega⟩, ?_⟩
  rw [hat, scR_sq hsz, hq, if_pos c4]
  refine ⟨c4, ?_⟩
  dsimp only
  rw [c3, List.map_append, h2]
  rfl
theorem proc_two {f d : Nat} {t : Tk} {a : Int} {r : List Syn × List Tk} (h : pRead f .proc d [t, tE a] = .ok r) : False := by
  cases f with
  | zero => rw [pRead] at h; cases h
  | succ f =>
    rw [eq_proc] at h
    unfold mProc at h
    obtain ⟨⟨p, l0⟩, c0, h⟩ := ebind_ok h
    cases c0
    obtain ⟨⟨ext, l0⟩, c0, h⟩ := ebind_ok h
    cases c0
    obtain ⟨⟨q, l0⟩, c0, h⟩ := ebind_ok h
    dsimp only at c0 h
    obtain ⟨⟨u, l1⟩, c1, h⟩ := ebind_ok h
    obtain ⟨⟨n, l2⟩, c2, -⟩ := ebind_ok h
    have nn : ∀ n l, pName [tE a] ≠ .ok (n, l) := fun n l e => by cases e
    by_cases hi : pIs wImport [t, tE a] = true
    · rw [if_pos hi] at c0
      cases c0
      have c1 : mNeed wProc f [tE a] = .ok (u, l1) := c1
      unfold mNeed at c1
      rw [if_neg (by rw [is_end (by decide)]; simp)] at c1
      cases c1
    · rw [if_neg hi] at c0
      cases c0
      have c1 : mNeed wProc f [t, tE a] = .ok (u, l1) := c1
      unfold mNeed at c1
      split at c1
      · cases c1
        exact nn _ _ c2
      · cases c1
theorem proc_head {f d : Nat} {v : Tk} {l : List Tk} {r : List Syn × List Tk} (h : pRead f .proc d (v :: l) = .ok r) : pIs wProc (v :: l) = true ∨ pIs wImport (v :: l) = true := by
  cases f with
  | zero => rw [pRead] at h; cases h
  | succ f =>
    rw [eq_proc] at h
    unfold mProc at h
    obtain ⟨⟨p, l0⟩, c0, h⟩ := ebind_ok h
    cases c0
    obtain ⟨⟨ext, l0⟩, c0, h⟩ := ebind_ok h
    cases c0
    obtain ⟨⟨q, l0⟩, c0, h⟩ := ebind_ok h
    dsimp only at c0 h
    obtain ⟨⟨u, l1⟩, c1, -⟩ := ebind_ok h
    by_cases hi : pIs wImport (v :: l) = true
    · exact .inr hi
    · rw [if_neg hi] at c0
      cases c0
      have c1 : mNeed wProc f (v :: l) = .ok (u, l1) := c1
      unfold mNeed at c1
      split at c1
      · exact .inl (by assumption)
      · cases c1
/-- What is known of a procedure's tokens. -/
theorem cut_form {s : ByteArray} {x : Syn} (h : pAns 1 s = .ok x) : (scR s).2.2 = 0 ∧ s.size ≤ 65536 ∧ ∃ (v : Tk) (V : List Tk) (t : Tk) (e : Int) (f : Nat) (xs : List Syn), (scR s).1 = v :: V ++ [t, tE e] ∧ pRead f .proc 0 (v :: V ++ [t, tE e]) = .ok (xs, [tE e]) := by
  obtain ⟨he, U, e, f, xs, hU, hok, h1, -, hz⟩ := pAns_ok h
  have h1 : pRead f .proc 0 (U ++ [tE e]) = .ok (xs, [tE e]) := h1
  refine ⟨he, hz, ?_⟩
  rcases List.eq_nil_or_concat U with rfl | ⟨U1, t, rfl⟩
  · exact absurd h1 ((shut_proc f 0 e).1 _ _)
  · rw [List.concat_eq_append, List.append_assoc] at h1 hU
    cases U1 with
    | nil => exact absurd h1 (fun q => proc_two q)
    | cons v V => exact ⟨v, V, t, e, f, xs, hU, h1⟩
theorem cut_proc {s : ByteArray} {v : Tk} {V : List Tk} {t : Tk} {e : Int} {f : Nat} {xs : List Syn} (he : (scR s).2.2 = 0) (hV : (scR s).1 = v :: V ++ [t, tE e]) (h : pRead f .proc 0 (v :: V ++ [t, tE e]) = .ok (xs, [tE e])) :
    pAns 1 (s.extract 0 t.a.toNat) = .error (0, 0) ∨ (pAns 1 (s.extract 0 t.a.toNat) = .error (t.a, 4) ∧ pAns 0 (s.extract 0 t.a.toNat) = .error (t.a, 4)) := by
  obtain ⟨-, c1, c2⟩ := cut_toks he hV
  rw [pAns_tk c1, pAns_tk c1, c2]
  by_cases hex : ∃ g, pRead g .proc 0 (v :: V ++ [tE t.a]) ≠ .error (0, 0)
  · obtain ⟨g, hg⟩ := hex
    right
    obtain ⟨F, hF⟩ : ∃ F, F = max f g := ⟨_, rfl⟩
    have hO : pRead F .proc 0 (v :: V ++ [t, tE e]) = .ok (xs, [tE e]) := read_up h (by omega)
    have hR := pRead_more g F .proc 0 (v :: V ++ [tE t.a]) (by omega) hg
    rw [← hR] at hg
    have key : pRead F .proc 0 (v :: V ++ [tE t.a]) = .error (t.a, 4) := by
      cases hr : pRead F .proc 0 (v :: V ++ [tE t.a]) with
      | error p =>
        rcases er_read F .proc 0 (v :: V) t.a p hr with q | q | ⟨-, q⟩
        · rw [q] at hr; exact absurd hr hg
        · rw [q]
        · have := q [t, tE e] (by simp)
          rw [show mRead .proc 0 F (v :: V ++ [t, tE e]) = _ from hO] at this
          cases this
      | ok y =>
        exfalso
        obtain ⟨ys, r⟩ := y
        obtain ⟨V1, q1, q2⟩ := item_on (S := [t, tE e]) (shut_proc F 0) (by simp) hr
        rw [hO] at q2
        have := congrArg List.length (Prod.mk.inj (Except.ok.inj q2)).2
        simp at this
    have k1 : pTk 1 (v :: V ++ [tE t.a]) = .error (t.a, 4) := by
      unfold pTk
      rw [pLim_of (w := entW 1 (v :: V ++ [tE t.a])) key (fun q => absurd (Prod.mk.inj (Except.error.inj q)).2 (by decide))]
      rfl
    refine ⟨k1, ?_⟩
    have hh := proc_head h
    have hI : ∀ w, pIs w (v :: V ++ [tE t.a]) = pIs w (v :: V ++ [t, tE e]) := fun w => rfl
    have hrec : ¬ pIs wRecord (v :: V ++ [tE t.a]) = true := fun q => by
      have q1 : bytes v.t = wRecord := by simpa using (show (bytes v.t == wRecord) = true from q)
      rcases hh with z | z
      · have z1 : bytes v.t = wProc := by simpa using (show (bytes v.t == wProc) = true from z)
        rw [q1] at z1; revert z1; decide
      · have z1 : bytes v.t = wImport := by simpa using (show (bytes v.t == wImport) = true from z)
        rw [q1] at z1; revert z1; decide
    have k0 : pRead (F + 1) (.program (pHd (v :: V ++ [tE t.a])).a) 0 (v :: V ++ [tE t.a]) = .error (t.a, 4) := by
      rw [pRead, if_neg hrec, if_pos (by rw [hI, hI]; exact hh), key]
      rfl
    unfold pTk
    rw [pLim_of (w := entW 0 (v :: V ++ [tE t.a])) k0 (fun q => absurd (Prod.mk.inj (Except.error.inj q)).2 (by decide))]
    rfl
  · left
    unfold pTk pLim
    rw [dif_neg (show ¬ ∃ f, pRead f (entW 1 (v :: V ++ [tE t.a])) 0 (v :: V ++ [tE t.a]) ≠ .error (0, 0) from hex)]
    rfl
end Go.Proofs.YtdibcllakkjegaaGreatDoor

