import Derived.Test.YtdibcllakkjegaaGreatDoorCut20

set_option linter.unusedVariables false
/-
  parser: what reading leaves stands at the end of what there was.
-/
set_option linter.unusedSimpArgs false
set_option linter.unusedVariables false
namespace Go.Proofs.YtdibcllakkjegaaGreatDoor
open Go Go.Proofs Go.RowKit
theorem pTl_suf : ∀ l : List Tk, pTl l <:+ l
  | [] => List.suffix_refl _
  | [t] => List.suffix_refl _
  | t :: u :: l => ⟨[t], rfl⟩
def Suf {α : Type} (f : Nat) (m : Rd α) : Prop := ∀ l x l', m f l = .ok (x, l') → l' <:+ l
section
variable {α β : Type} {f : Nat}
theorem Suf.bind {m : Rd α} {k : α → Rd β} (h : Suf f m) (g : ∀ x, Suf f (k x)) : Suf f (mBind m k) := by
  intro l y l' e
  obtain ⟨⟨x, l1⟩, e1, e2⟩ := ebind_ok e
  exact List.IsSuffix.trans (g x l1 y l' e2) (h l x l1 e1)
theorem Suf.ite {c : Prop} [Decidable c] {m k : Rd α} (h : Suf f m) (g : Suf f k) : Suf f (if c then m else k) := by split <;> assumption
theorem Suf.ret {x : α} : Suf f (mRet x) := by intro l y l' e; cases e; exact List.suffix_refl _
theorem Suf.peek : Suf f mPeek := by intro l y l' e; cases e; exact List.suffix_refl _
theorem Suf.take : Suf f mTake := by intro l y l' e; cases e; exact pTl_suf _
theorem Suf.is {s : List UInt8} : Suf f (mIs s) := by intro l y l' e; cases e; exact List.suffix_refl _
theorem Suf.next : Suf f mNext := by intro l y l' e; cases e; exact List.suffix_refl _
theorem Suf.named : Suf f mNamed := by intro l y l' e; cases e; exact List.suffix_refl _
theorem Suf.name : Suf f mName := by
  intro l y l' e
  unfold mName pName at e
  split at e
  · cases e; exact pTl_suf _
  · cases e
theorem Suf.need {s : List UInt8} : Suf f (mNeed s) := by
  intro l y l' e
  unfold mNeed at e
  split at e
  · cases e; exact pTl_suf _
  · cases e
theorem Suf.enter {s : List UInt8} {d : Nat} : Suf f (mEnter s d) := by
  intro l y l' e
  unfold mEnter at e
  split at e
  · split at e
    · cases e
    · cases e; exact pTl_suf _
  · cases e
theorem Suf.num : Suf f mNum := by
  intro l y l' e
  unfold mNum at e
  split at e
  · split at e
    · cases e
    · cases e; exact pTl_suf _
  · cases e
theorem Suf.of {m k : Rd α} (h : Suf f m) (e : ∀ l, k f l = m f l) : Suf f k := fun l x l' g => h l x l' ((e l).symm.trans g)
end
theorem Suf.before {f d : Nat} {s : List UInt8} {w : Want} (h : Suf f (mRead (.list w) d)) : Suf f (mBefore s w d) := by
  intro l y l' e
  unfold mBefore at e
  split at e
  · cases e; exact List.suffix_refl _
  · exact h l y l' e
theorem suf_read (f : Nat) : ∀ (w : Want) (d : Nat), Suf f (mRead w d) := by
  induction f with
  | zero => intro w d l x l' e; unfold mRead at e; rw [pRead] at e; cases e
  | succ f ih =>
    have H : ∀ w d l x l', pRead f w d l = .ok (x, l') → l' <:+ l := fun w d l x l' e => ih w d l x l' e
    have hN : ∀ l t l', pName l = .ok (t, l') → l' <:+ l := fun l t l' e => Suf.name (f := f) l t l' e
    have hD : ∀ s l l', pNeed s l = .ok l' → l' <:+ l := fun s l l' e => by
      unfold pNeed at e
      split at e
      · cases e; exact pTl_suf _
      · cases e
    have hT := pTl_suf
    intro w d
    cases w with
    | lvl i =>
      intro l x l' e
      unfold mRead at e
      rw [pRead] at e
      split at e
      · split at e
        · split at e
          · cases e
          · obtain ⟨⟨y, l1⟩, e1, e2⟩ := ebind_ok e
            cases e2
            exact List.IsSuffix.trans (H _ _ _ _ _ e1) (hT l)
        · exact H _ _ _ _ _ e
      · split at e
        · obtain ⟨⟨y, l1⟩, e1, e2⟩ := ebind_ok e
          have g1 := H _ _ _ _ _ e1
          dsimp only at e2
          split at e2
          · obtain ⟨⟨z, l2⟩, e3, e4⟩ := ebind_ok e2
            cases e4
            exact List.IsSuffix.trans (H _ _ _ _ _ e3) (List.IsSuffix.trans (hT l1) g1)
          · cases e2; exact g1
        · split at e
          · split at e
            · cases e; exact hT l
            · split at e
              · cases e; exact hT l
              · split at e
                · split at e
                  · cases e
                  · obtain ⟨⟨y, l1⟩, e1, e2⟩ := ebind_ok e
                    obtain ⟨l2, e3, e4⟩ := ebind_ok e2
                    cases e4
                    exact List.IsSuffix.trans (hD _ _ _ e3) (List.IsSuffix.trans (H _ _ _ _ _ e1) (hT l))
                · exact H _ _ _ _ _ e
          · obtain ⟨⟨y, l1⟩, e1, e2⟩ := ebind_ok e
            exact List.IsSuffix.trans (H _ _ _ _ _ e2) (H _ _ _ _ _ e1)
    | rep i a x0 =>
      intro l x l' e
      unfold mRead at e
      rw [pRead] at e
      split at e
      · obtain ⟨⟨y, l1⟩, e1, e2⟩ := ebind_ok e
        exact List.IsSuffix.trans (H _ _ _ _ _ e2) (List.IsSuffix.trans (H _ _ _ _ _ e1) (hT l))
      · cases e; exact List.suffix_refl _
    | bare =>
      intro l x l' e
      unfold mRead at e
      rw [pRead] at e
      obtain ⟨⟨t, l1⟩, e1, e2⟩ := ebind_ok e
      cases e2; exact hN _ _ _ e1
    | place =>
      intro l x l' e
      unfold mRead at e
      rw [pRead] at e
      obtain ⟨⟨t, l1⟩, e1, e2⟩ := ebind_ok e
      have g1 := hN _ _ _ e1
      dsimp only at e2
      split at e2
      · obtain ⟨⟨z, l2⟩, e3, e4⟩ := ebind_ok e2
        cases e4
        exact List.IsSuffix.trans (H _ _ _ _ _ e3) (List.IsSuffix.trans (hT l1) g1)
      · cases e2; exact g1
    | param =>
      intro l x l' e
      unfold mRead at e
      rw [pRead] at e
      obtain ⟨⟨t, l1⟩, e1, e2⟩ := ebind_ok e
      have g1 := hN _ _ _ e1
      dsimp only at e2
      split at e2
      · obtain ⟨⟨z, l2⟩, e3, e4⟩ := ebind_ok e2
        cases e4
        exact List.IsSuffix.trans (H _ _ _ _ _ e3) (List.IsSuffix.trans (hT l1) g1)
      · cases e2; exact g1
    | list w =>
      intro l x l' e
      unfold mRead at e
      rw [pRead] at e
      obtain ⟨⟨t, l1⟩, e1, e2⟩ := ebind_ok e
      have g1 := H _ _ _ _ _ e1
      dsimp only at e2
      split at e2
      · obtain ⟨⟨z, l2⟩, e3, e4⟩ := ebind_ok e2
        cases e4
        exact List.IsSuffix.trans (H _ _ _ _ _ e3) (List.IsSuffix.trans (hT l1) g1)
      · cases e2; exact g1
    | cond =>
      intro l x l' e
      unfold mRead at e
      rw [pRead] at e
      exact H _ _ _ _ _ e
    | load =>
      intro l x l' e
      unfold mRead at e
      rw [eq_load] at e
      revert l x l'
      show Suf f (mLoad d)
      unfold mLoad
      repeat' (first | exact Suf.take | exact Suf.peek | exact Suf.is | exact Suf.next | exact Suf.named | exact Suf.name | exact Suf.need | exact Suf.enter | exact Suf.num | exact Suf.ret | exact ih _ _ | exact Suf.before (ih _ _) | (refine Suf.bind ?_ (fun _ => ?_)) | (refine Suf.ite ?_ ?_) | (unfold mStore) | (unfold mCallSt) | (unfold mAssign) | (unfold mChoice) | (unfold mLoop) | (unfold mClaim) | (unfold mVars) | (unfold mArray) | (unfold mParams) | (unfold mResults) | (unfold mWhen))
    | call =>
      intro l x l' e
      unfold mRead at e
      rw [eq_call] at e
      revert l x l'
      show Suf f (mCall d)
      unfold mCall
      repeat' (first | exact Suf.take | exact Suf.peek | exact Suf.is | exact Suf.next | exact Suf.named | exact Suf.name | exact Suf.need | exact Suf.enter | exact Suf.num | exact Suf.ret | exact ih _ _ | exact Suf.before (ih _ _) | (refine Suf.bind ?_ (fun _ => ?_)) | (refine Suf.ite ?_ ?_) | (unfold mStore) | (unfold mCallSt) | (unfold mAssign) | (unfold mChoice) | (unfold mLoop) | (unfold mClaim) | (unfold mVars) | (unfold mArray) | (unfold mParams) | (unfold mResults) | (unfold mWhen))
    | right =>
      intro l x l' e
      unfold mRead at e
      rw [eq_right] at e
      revert l x l'
      show Suf f (mRight d)
      unfold mRight
      repeat' (first | exact Suf.take | exact Suf.peek | exact Suf.is | exact Suf.next | exact Suf.named | exact Suf.name | exact Suf.need | exact Suf.enter | exact Suf.num | exact Suf.ret | exact ih _ _ | exact Suf.before (ih _ _) | (refine Suf.bind ?_ (fun _ => ?_)) | (refine Suf.ite ?_ ?_) | (unfold mStore) | (unfold mCallSt) | (unfold mAssign) | (unfold mChoice) | (unfold mLoop) | (unfold mClaim) | (unfold mVars) | (unfold mArray) | (unfold mParams) | (unfold mResults) | (unfold mWhen))
    | block =>
      intro l x l' e
      unfold mRead at e
      rw [eq_block] at e
      revert l x l'
      show Suf f (mBlock d)
      unfold mBlock
      repeat' (first | exact Suf.take | exact Suf.peek | exact Suf.is | exact Suf.next | exact Suf.named | exact Suf.name | exact Suf.need | exact Suf.enter | exact Suf.num | exact Suf.ret | exact ih _ _ | exact Suf.before (ih _ _) | (refine Suf.bind ?_ (fun _ => ?_)) | (refine Suf.ite ?_ ?_) | (unfold mStore) | (unfold mCallSt) | (unfold mAssign) | (unfold mChoice) | (unfold mLoop) | (unfold mClaim) | (unfold mVars) | (unfold mArray) | (unfold mParams) | (unfold mResults) | (unfold mWhen))
    | chain a =>
      intro l x l' e
      unfold mRead at e
      rw [eq_chain] at e
      revert l x l'
      show Suf f (mChain a d)
      unfold mChain
      repeat' (first | exact Suf.take | exact Suf.peek | exact Suf.is | exact Suf.next | exact Suf.named | exact Suf.name | exact Suf.need | exact Suf.enter | exact Suf.num | exact Suf.ret | exact ih _ _ | exact Suf.before (ih _ _) | (refine Suf.bind ?_ (fun _ => ?_)) | (refine Suf.ite ?_ ?_) | (unfold mStore) | (unfold mCallSt) | (unfold mAssign) | (unfold mChoice) | (unfold mLoop) | (unfold mClaim) | (unfold mVars) | (unfold mArray) | (unfold mParams) | (unfold mResults) | (unfold mWhen))
    | stmts =>
      intro l x l' e
      unfold mRead at e
      rw [eq_stmts] at e
      revert l x l'
      show Suf f (mStmts d)
      unfold mStmts
      repeat' (first | exact Suf.take | exact Suf.peek | exact Suf.is | exact Suf.next | exact Suf.named | exact Suf.name | exact Suf.need | exact Suf.enter | exact Suf.num | exact Suf.ret | exact ih _ _ | exact Suf.before (ih _ _) | (refine Suf.bind ?_ (fun _ => ?_)) | (refine Suf.ite ?_ ?_) | (unfold mStore) | (unfold mCallSt) | (unfold mAssign) | (unfold mChoice) | (unfold mLoop) | (unfold mClaim) | (unfold mVars) | (unfold mArray) | (unfold mParams) | (unfold mResults) | (unfold mWhen))
    | stmt =>
      intro l x l' e
      unfold mRead at e
      rw [eq_stmt] at e
      revert l x l'
      show Suf f (mStmt d)
      unfold mStmt
      repeat' (first | exact Suf.take | exact Suf.peek | exact Suf.is | exact Suf.next | exact Suf.named | exact Suf.name | exact Suf.need | exact Suf.enter | exact Suf.num | exact Suf.ret | exact ih _ _ | exact Suf.before (ih _ _) | (refine Suf.bind ?_ (fun _ => ?_)) | (refine Suf.ite ?_ ?_) | (unfold mStore) | (unfold mCallSt) | (unfold mAssign) | (unfold mChoice) | (unfold mLoop) | (unfold mClaim) | (unfold mVars) | (unfold mArray) | (unfold mParams) | (unfold mResults) | (unfold mWhen))
    | decls =>
      intro l x l' e
      unfold mRead at e
      rw [eq_decls] at e
      revert l x l'
      show Suf f (mDecls d)
      unfold mDecls
      repeat' (first | exact Suf.take | exact Suf.peek | exact Suf.is | exact Suf.next | exact Suf.named | exact Suf.name | exact Suf.need | exact Suf.enter | exact Suf.num | exact Suf.ret | exact ih _ _ | exact Suf.before (ih _ _) | (refine Suf.bind ?_ (fun _ => ?_)) | (refine Suf.ite ?_ ?_) | (unfold mStore) | (unfold mCallSt) | (unfold mAssign) | (unfold mChoice) | (unfold mLoop) | (unfold mClaim) | (unfold mVars) | (unfold mArray) | (unfold mParams) | (unfold mResults) | (unfold mWhen))
    | body =>
      intro l x l' e
      unfold mRead at e
      rw [eq_body] at e
      revert l x l'
      show Suf f (mBody d)
      unfold mBody
      repeat' (first | exact Suf.take | exact Suf.peek | exact Suf.is | exact Suf.next | exact Suf.named | exact Suf.name | exact Suf.need | exact Suf.enter | exact Suf.num | exact Suf.ret | exact ih _ _ | exact Suf.before (ih _ _) | (refine Suf.bind ?_ (fun _ => ?_)) | (refine Suf.ite ?_ ?_) | (unfold mStore) | (unfold mCallSt) | (unfold mAssign) | (unfold mChoice) | (unfold mLoop) | (unfold mClaim) | (unfold mVars) | (unfold mArray) | (unfold mParams) | (unfold mResults) | (unfold mWhen))
    | record =>
      intro l x l' e
      unfold mRead at e
      rw [eq_record] at e
      revert l x l'
      show Suf f (mRecord d)
      unfold mRecord
      repeat' (first | exact Suf.take | exact Suf.peek | exact Suf.is | exact Suf.next | exact Suf.named | exact Suf.name | exact Suf.need | exact Suf.enter | exact Suf.num | exact Suf.ret | exact ih _ _ | exact Suf.before (ih _ _) | (refine Suf.bind ?_ (fun _ => ?_)) | (refine Suf.ite ?_ ?_) | (unfold mStore) | (unfold mCallSt) | (unfold mAssign) | (unfold mChoice) | (unfold mLoop) | (unfold mClaim) | (unfold mVars) | (unfold mArray) | (unfold mParams) | (unfold mResults) | (unfold mWhen))
    | proc =>
      intro l x l' e
      unfold mRead at e
      rw [eq_proc] at e
      revert l x l'
      show Suf f (mProc d)
      unfold mProc
      repeat' (first | exact Suf.take | exact Suf.peek | exact Suf.is | exact Suf.next | exact Suf.named | exact Suf.name | exact Suf.need | exact Suf.enter | exact Suf.num | exact Suf.ret | exact ih _ _ | exact Suf.before (ih _ _) | (refine Suf.bind ?_ (fun _ => ?_)) | (refine Suf.ite ?_ ?_) | (unfold mStore) | (unfold mCallSt) | (unfold mAssign) | (unfold mChoice) | (unfold mLoop) | (unfold mClaim) | (unfold mVars) | (unfold mArray) | (unfold mParams) | (unfold mResults) | (unfold mWhen))
    | program a =>
      intro l x l' e
      unfold mRead at e
      rw [eq_program] at e
      revert l x l'
      show Suf f (mProgram a d)
      unfold mProgram
      repeat' (first | exact Suf.take | exact Suf.peek | exact Suf.is | exact Suf.next | exact Suf.named | exact Suf.name | exact Suf.need | exact Suf.enter | exact Suf.num | exact Suf.ret | exact ih _ _ | exact Suf.before (ih _ _) | (refine Suf.bind ?_ (fun _ => ?_)) | (refine Suf.ite ?_ ?_) | (unfold mStore) | (unfold mCallSt) | (unfold mAssign) | (unfold mChoice) | (unfold mLoop) | (unfold mClaim) | (unfold mVars) | (unfold mArray) | (unfold mParams) | (unfold mResults) | (unfold mWhen))
def Prf {α : Type} (f : Nat) (m : Rd α) : Prop := ∀ (V V2 S S' : List Tk) (y : α), S ≠ [] → S' ≠ [] → V2 ≠ [] → m f (V ++ S) = .ok (y, V2 ++ S) → m f (V ++ S') = .ok (y, V2 ++ S')
section
variable {α β : Type} {f : Nat}
theorem Prf.bind {m : Rd α} {k : α → Rd β} (h : Prf f m) (g : ∀ x, Prf f (k x)) (gs : ∀ x, Suf f (k x)) : Prf f (mBind m k) := by
  intro V V2 S S' y hS hS' h2 e
  obtain ⟨⟨x, l1⟩, e1, e2⟩ := ebind_ok e
  obtain ⟨T, hT⟩ := gs x _ _ _ e2
  have e3 : l1 = (T ++ V2) ++ S := by rw [List.append_assoc]; exact hT.symm
  subst e3
  have a1 := h V (T ++ V2) S S' x hS hS' (by simp [h2]) e1
  have a2 := g x (T ++ V2) V2 S S' y hS hS' h2 e2
  show (m f (V ++ S') >>= fun p => k p.1 f p.2) = _
  rw [a1]
  exact a2
theorem Prf.ite {c : Prop} [Decidable c] {m k : Rd α} (h : Prf f m) (g : Prf f k) : Prf f (if c then m else k) := by split <;> assumption
theorem prf_tl {V V2 S : List Tk} (hS : S ≠ []) (h2 : V2 ≠ []) (e : pTl (V ++ S) = V2 ++ S) : ∃ v, V = v :: V2 := by
  cases V with
  | nil =>
    have h1 := pTl_len S
    have h3 := congrArg List.length e
    rw [List.nil_append, List.length_append] at h3
    have := List.length_pos_iff.2 h2
    omega
  | cons v V =>
    obtain ⟨a, b, hab⟩ := List.exists_cons_of_ne_nil (show V ++ S ≠ [] from fun q => hS (List.append_eq_nil_iff.1 q).2)
    have e1 : pTl (v :: V ++ S) = V ++ S := by rw [List.cons_append, hab]; rfl
    rw [e1] at e
    exact ⟨v, by rw [List.append_cancel_right e]⟩
theorem tl_cons {v : Tk} {V S : List Tk} (h : S ≠ []) : pTl (v :: V ++ S) = V ++ S := by
  obtain ⟨a, b, hab⟩ := List.exists_cons_of_ne_nil (show V ++ S ≠ [] from fun q => h (List.append_eq_nil_iff.1 q).2)
  rw [List.cons_append, hab]; rfl
theorem Prf.test {m : Rd α} (q : Tk → Except (Int × Nat) α) (hm : ∀ l, m f l = (match q (pHd l) with | .ok z => .ok (z, pTl l) | .error e => .error e)) : Prf f m := by
  intro V V2 S S' y hS hS' h2 e
  rw [hm] at e
  cases hq : q (pHd (V ++ S)) with
  | error p => rw [hq] at e; cases e
  | ok z =>
    rw [hq] at e
    dsimp only at e
    rw [Except.ok.injEq, Prod.mk.injEq] at e
    obtain ⟨rfl, e⟩ := e
    obtain ⟨v, rfl⟩ := prf_tl hS h2 e
    have hq2 : q (pHd (v :: V2 ++ S')) = .ok z := hq
    rw [hm, hq2, tl_cons hS']
theorem Prf.look {m : Rd α} (q : Tk → α) (hm : ∀ l, m f l = .ok (q (pHd l), l)) : Prf f m := by
  intro V V2 S S' y hS hS' h2 e
  rw [hm, Except.ok.injEq, Prod.mk.injEq] at e
  obtain ⟨rfl, e⟩ := e
  obtain rfl := List.append_cancel_right e
  rw [hm]
  obtain ⟨v, V, rfl⟩ := List.exists_cons_of_ne_nil h2
  rfl
theorem Prf.ret {x : α} : Prf f (mRet x) := Prf.look (fun _ => x) fun _ => rfl
theorem Prf.peek : Prf f mPeek := Prf.look (fun t => t) fun _ => rfl
theorem Prf.is {s : List UInt8} : Prf f (mIs s) := Prf.look (fun t => bytes t.t == s) fun _ => rfl
theorem Prf.named : Prf f mNamed := Prf.look (fun t => pNamed t) fun _ => rfl
theorem Prf.take : Prf f mTake := Prf.test (fun t => .ok t) fun _ => rfl
theorem Prf.name : Prf f mName := Prf.test (fun t => if pNamed t = true then .ok t else .error (t.a, 4)) fun l => by
  unfold mName pName
  split <;> simp [*]
theorem Prf.need {s : List UInt8} : Prf f (mNeed s) := Prf.test (fun t => if (bytes t.t == s) = true then .ok t else .error (t.a, 4)) fun l => by
  unfold mNeed pIs
  split <;> simp [*]
theorem Prf.enter {s : List UInt8} {d : Nat} : Prf f (mEnter s d) := Prf.test (fun t => if (bytes t.t == s) = true then (if d = 64 then .error (t.a, 12) else .ok t) else .error (t.a, 4)) fun l => by
  unfold mEnter pIs
  split
  · split <;> simp [*]
  · simp [*]
theorem Prf.num : Prf f mNum := Prf.test (fun t => if t.k = 1 then (if 1048576 < pNum (bytes t.t) then .error (t.a, 2) else .ok (pNum (bytes t.t) : Int)) else .error (t.a, 4)) fun l => by
  unfold mNum
  split
  · split <;> simp [*]
  · simp [*]
theorem Prf.next {k : List UInt8 → Rd β} (g : ∀ x, Prf f (k x)) (gl : ∀ x, Less f (k x)) (gs : ∀ x, Suf f (k x)) : Prf f (mBind mNext k) := by
  intro V V2 S S' y hS hS' h2 e
  have e1 : k (pNext (V ++ S)) f (V ++ S) = .ok (y, V2 ++ S) := e
  show k (pNext (V ++ S')) f (V ++ S') = _
  have hp2 := List.length_pos_iff.2 h2
  have hpS := List.length_pos_iff.2 hS
  match V, e1 with
  | [], e1 =>
    have := (gs _ _ _ _ e1).length_le
    rw [List.length_append, List.nil_append] at this
    omega
  | [v], e1 =>
    have := gl _ _ _ _ (by simp; omega) e1
    simp only [List.length_append, List.length_cons, List.length_nil] at this
    omega
  | v :: u :: V, e1 => exact g _ _ _ _ _ _ hS hS' h2 e1
theorem Prf.of {m k : Rd α} (h : Prf f m) (e : ∀ l, k f l = m f l) : Prf f k := fun V V2 S S' y h1 h2 h3 g => (e _).trans (h V V2 S S' y h1 h2 h3 ((e _).symm.trans g))
end
theorem Less.lvl {d : Nat} : ∀ (f i : Nat), Less f (mRead (.lvl i) d)
  | 0, i => fun l x l' h e => by unfold mRead at e; rw [pRead] at e; cases e
  | f + 1, i => fun l x l' h e => by
    have ih : ∀ i, Less f (mRead (.lvl i) d) := fun i => Less.lvl f i
    unfold mRead at e
    rw [pRead] at e
    have M := fun w d l x l' (e : pRead f w d l = .ok (x, l')) => mono_read f w d l x l' e
    have ht := pTl_less h
    split at e
    · split at e
      · split at e
        · cases e
        · obtain ⟨⟨y, l1⟩, e1, e2⟩ := ebind_ok e
          cases e2
          have := M _ _ _ _ _ e1
          omega
      · exact ih _ l x l' h e
    · split at e
      · obtain ⟨⟨y, l1⟩, e1, e2⟩ := ebind_ok e
        have g1 := ih _ l y l1 h e1
        dsimp only at e2
        split at e2
        · obtain ⟨⟨z, l2⟩, e3, e4⟩ := ebind_ok e2
          have := M _ _ _ _ _ e3
          have := pTl_len l1
          have hh : l2.length < l.length := by omega
          cases e4
          exact hh
        · cases e2; exact g1
      · split at e
        · split at e
          · cases e; exact ht
          · split at e
            · cases e; exact ht
            · split at e
              · split at e
                · cases e
                · obtain ⟨⟨y, l1⟩, e1, e2⟩ := ebind_ok e
                  obtain ⟨l2, e3, e4⟩ := ebind_ok e2
                  have := M _ _ _ _ _ e1
                  have : l2.length ≤ l1.length := by
                    unfold pNeed at e3
                    split at e3
                    · cases e3; exact pTl_len _
                    · cases e3
                  have hh : l2.length < l.length := by omega
                  cases e4
                  exact hh
              · cases f with
                | zero => rw [pRead] at e; cases e
                | succ f =>
                  rw [pRead] at e
                  obtain ⟨⟨t, l0⟩, e3, e4⟩ := ebind_ok e
                  have g0 := Less.name (f := f) l t l0 h e3
                  dsimp only at e4
                  split at e4
                  · obtain ⟨⟨z, l2⟩, e5, e6⟩ := ebind_ok e4
                    cases e6
                    have := mono_read f .bare d _ _ _ e5
                    have := pTl_len l0
                    show l2.length < l.length
                    omega
                  · cases e4; exact g0
        · obtain ⟨⟨y, l1⟩, e1, e2⟩ := ebind_ok e
          have g1 := ih _ l y l1 h e1
          have := M _ _ _ _ _ e2
          omega
def mOpI (i : Nat) : Rd Bool := fun _ l => .ok (pOp i l, l)
theorem Prf.op {f i : Nat} : Prf f (mOpI i) := Prf.look (fun t => (pOps i).contains (bytes t.t)) fun _ => rfl
theorem Suf.op {f i : Nat} : Suf f (mOpI i) := by intro l y l' e; cases e; exact List.suffix_refl _
def mDeep (d : Nat) : Rd Tk := fun _ l => if d = 64 then .error ((pHd l).a, 12) else .ok (pHd l, pTl l)
theorem Prf.deep {f d : Nat} : Prf f (mDeep d) := Prf.test (fun t => if d = 64 then .error (t.a, 12) else .ok t) fun l => by
  unfold mDeep
  split <;> simp [*]
theorem Suf.deep {f d : Nat} : Suf f (mDeep d) := by
  intro l y l' e
  unfold mDeep at e
  split at e
  · cases e
  · cases e; exact pTl_suf _
def mLvl (i d : Nat) : Rd (List Syn) :=
  if i = 2 ∨ i = 6 then mBind (mOpI i) fun b => if b = true then mBind (mDeep d) fun t => mBind (mRead (.lvl i) (d + 1)) fun x => mRet [.mk 21 t.a t.t 0 x] else mRead (.lvl (i + 1)) d
  else if i = 3 then mBind mPeek fun p => mBind (mRead (.lvl 4) d) fun x => mBind mPeek fun q => mBind (mOpI 3) fun b => if b = true then mBind mTake fun _ => mBind (mRead (.lvl 4) d) fun y => mRet [.mk 22 p.a q.t 0 (x ++ y)] else mRet x
  else if 7 ≤ i then mBind mPeek fun p => if p.k = 1 then mBind mTake fun t => mRet [pLeaf 20 p] else mBind (mIs wTrue) fun b1 => mBind (mIs wFalse) fun b2 => if b1 = true ∨ b2 = true then mBind mTake fun _ => mRet [pLeaf 23 p] else mBind (mIs [40]) fun b => if b = true then mBind (mDeep d) fun _ => mBind (mRead (.lvl 0) (d + 1)) fun x => mBind (mNeed [41]) fun _ => mRet x else mRead .place d
  else mBind mPeek fun p => mBind (mRead (.lvl (i + 1)) d) fun x => mRead (.rep i p.a x) d
def mRepI (i : Nat) (a : Int) (x : List Syn) (d : Nat) : Rd (List Syn) := mBind mPeek fun p => mBind (mOpI i) fun b => if b = true then mBind mTake fun _ => mBind (mRead (.lvl (i + 1)) d) fun y => mRead (.rep i a [.mk 22 a p.t 0 (x ++ y)]) d else mRet x
def mBareI : Rd (List Syn) := mBind mName fun t => mRet [pLeaf 19 t]
def mPlaceI (d : Nat) : Rd (List Syn) := mBind mName fun t => mBind (mIs [46]) fun b => if b = true then mBind mTake fun _ => mBind (mRead .bare d) fun x => mRet [.mk 18 t.a t.t 0 x] else mRet [pLeaf 18 t]
def mParamI (d : Nat) : Rd (List Syn) := mBind mName fun t => mBind (mIs [58]) fun b => if b = true then mBind mTake fun _ => mBind (mRead .bare d) fun x => mRet [.mk 4 t.a t.t 0 x] else mRet [pLeaf 4 t]
def mListI (w : Want) (d : Nat) : Rd (List Syn) := mBind (mRead w d) fun x => mBind (mIs [44]) fun b => if b = true then mBind mTake fun _ => mBind (mRead (.list w) d) fun y => mRet (x ++ y) else mRet x
theorem eqI_lvl {i d : Nat} {a : Int} {x : List Syn} {w : Want} (f : Nat) (l : List Tk) : pRead (f + 1) (.lvl i) d l = mLvl i d f l := by
  rw [pRead]
  simp only [mLvl, mRepI, mBareI, mPlaceI, mParamI, mListI, mDeep, mOpI, mBind, mRet, mName, mNeed, mRead, mPeek, mTake, mEnter, mIs, mNamed, mNext, mBefore, mNum, pNeed, ite_ebind, ok_ebind, error_ebind, ebind_assoc, pure, Except.pure, ite_rd]
  repeat' (first | rfl | contradiction | (split <;> try (simp only [*, ite_ebind, ok_ebind, error_ebind, ebind_assoc, if_true, if_false, Bool.false_eq_true])) | (refine ebind_congr ?_; rintro ⟨_, _⟩; try simp only [ite_ebind, ok_ebind, error_ebind, ebind_assoc]))
theorem eqI_rep {i d : Nat} {a : Int} {x : List Syn} {w : Want} (f : Nat) (l : List Tk) : pRead (f + 1) (.rep i a x) d l = mRepI i a x d f l := by
  rw [pRead]
  simp only [mLvl, mRepI, mBareI, mPlaceI, mParamI, mListI, mDeep, mOpI, mBind, mRet, mName, mNeed, mRead, mPeek, mTake, mEnter, mIs, mNamed, mNext, mBefore, mNum, pNeed, ite_ebind, ok_ebind, error_ebind, ebind_assoc, pure, Except.pure, ite_rd]
  repeat' (first | rfl | contradiction | (split <;> try (simp only [*, ite_ebind, ok_ebind, error_ebind, ebind_assoc, if_true, if_false, Bool.false_eq_true])) | (refine ebind_congr ?_; rintro ⟨_, _⟩; try simp only [ite_ebind, ok_ebind, error_ebind, ebind_assoc]))
theorem eqI_bare {i d : Nat} {a : Int} {x : List Syn} {w : Want} (f : Nat) (l : List Tk) : pRead (f + 1) (.bare) d l = mBareI f l := by
  rw [pRead]
  simp only [mLvl, mRepI, mBareI, mPlaceI, mParamI, mListI, mDeep, mOpI, mBind, mRet, mName, mNeed, mRead, mPeek, mTake, mEnter, mIs, mNamed, mNext, mBefore, mNum, pNeed, ite_ebind, ok_ebind, error_ebind, ebind_assoc, pure, Except.pure, ite_rd]
  repeat' (first | rfl | contradiction | (split <;> try (simp only [*, ite_ebind, ok_ebind, error_ebind, ebind_assoc, if_true, if_false, Bool.false_eq_true])) | (refine ebind_congr ?_; rintro ⟨_, _⟩; try simp only [ite_ebind, ok_ebind, error_ebind, ebind_assoc]))
theorem eqI_place {i d : Nat} {a : Int} {x : List Syn} {w : Want} (f : Nat) (l : List Tk) : pRead (f + 1) (.place) d l = mPlaceI d f l := by
  rw [pRead]
  simp only [mLvl, mRepI, mBareI, mPlaceI, mParamI, mListI, mDeep, mOpI, mBind, mRet, mName, mNeed, mRead, mPeek, mTake, mEnter, mIs, mNamed, mNext, mBefore, mNum, pNeed, ite_ebind, ok_ebind, error_ebind, ebind_assoc, pure, Except.pure, ite_rd]
  repeat' (first | rfl | contradiction | (split <;> try (simp only [*, ite_ebind, ok_ebind, error_ebind, ebind_assoc, if_true, if_false, Bool.false_eq_true])) | (refine ebind_congr ?_; rintro ⟨_, _⟩; try simp only [ite_ebind, ok_ebind, error_ebind, ebind_assoc]))
theorem eqI_param {i d : Nat} {a : Int} {x : List Syn} {w : Want} (f : Nat) (l : List Tk) : pRead (f + 1) (.param) d l = mParamI d f l := by
  rw [pRead]
  simp only [mLvl, mRepI, mBareI, mPlaceI, mParamI, mListI, mDeep, mOpI, mBind, mRet, mName, mNeed, mRead, mPeek, mTake, mEnter, mIs, mNamed, mNext, mBefore, mNum, pNeed, ite_ebind, ok_ebind, error_ebind, ebind_assoc, pure, Except.pure, ite_rd]
  repeat' (first | rfl | contradiction | (split <;> try (simp only [*, ite_ebind, ok_ebind, error_ebind, ebind_assoc, if_true, if_false, Bool.false_eq_true])) | (refine ebind_congr ?_; rintro ⟨_, _⟩; try simp only [ite_ebind, ok_ebind, error_ebind, ebind_assoc]))
theorem eqI_list {i d : Nat} {a : Int} {x : List Syn} {w : Want} (f : Nat) (l : List Tk) : pRead (f + 1) (.list w) d l = mListI w d f l := by
  rw [pRead]
  simp only [mLvl, mRepI, mBareI, mPlaceI, mParamI, mListI, mDeep, mOpI, mBind, mRet, mName, mNeed, mRead, mPeek, mTake, mEnter, mIs, mNamed, mNext, mBefore, mNum, pNeed, ite_ebind, ok_ebind, error_ebind, ebind_assoc, pure, Except.pure, ite_rd]
  repeat' (first | rfl | contradiction | (split <;> try (simp only [*, ite_ebind, ok_ebind, error_ebind, ebind_assoc, if_true, if_false, Bool.false_eq_true])) | (refine ebind_congr ?_; rintro ⟨_, _⟩; try simp only [ite_ebind, ok_ebind, error_ebind, ebind_assoc]))
theorem Prf.before {f d : Nat} {s : List UInt8} {w : Want} (h : Prf f (mRead (.list w) d)) : Prf f (mBefore s w d) := by
  have e : (mBefore s w d : Rd (List Syn)) = mBind (mIs s) fun b => if b = true then mRet [] else mRead (.list w) d := by
    funext f l
    simp only [mBefore, mBind, mIs, mRet, mRead, ok_ebind, ite_rd]
  rw [e]
  exact Prf.bind Prf.is (fun _ => Prf.ite Prf.ret h) (fun _ => Suf.ite Suf.ret (suf_read _ _ _))
def PfS {α : Type} (f : Nat) (m : Rd α) : Prop := Prf f m ∧ Suf f m
theorem PfS.bind {α β : Type} {f : Nat} {m : Rd α} {k : α → Rd β} (h : PfS f m) (g : ∀ x, PfS f (k x)) : PfS f (mBind m k) := ⟨Prf.bind h.1 (fun x => (g x).1) (fun x => (g x).2), Suf.bind h.2 (fun x => (g x).2)⟩
theorem PfS.ite {α : Type} {f : Nat} {c : Prop} [Decidable c] {m k : Rd α} (h : PfS f m) (g : PfS f k) : PfS f (if c then m else k) := by split <;> assumption
theorem PfS.next {β : Type} {f : Nat} {k : List UInt8 → Rd β} (g : ∀ x, PfS f (k x)) (gl : ∀ x, Less f (k x)) : PfS f (mBind mNext k) := ⟨Prf.next (fun x => (g x).1) gl (fun x => (g x).2), Suf.bind Suf.next (fun x => (g x).2)⟩
theorem PfS.ret {α : Type} {f : Nat} {x : α} : PfS f (mRet x) := ⟨Prf.ret, Suf.ret⟩
theorem PfS.peek {f : Nat} : PfS f mPeek := ⟨Prf.peek, Suf.peek⟩
theorem PfS.is {f : Nat} {s : List UInt8} : PfS f (mIs s) := ⟨Prf.is, Suf.is⟩
theorem PfS.named {f : Nat} : PfS f mNamed := ⟨Prf.named, Suf.named⟩
theorem PfS.take {f : Nat} : PfS f mTake := ⟨Prf.take, Suf.take⟩
theorem PfS.name {f : Nat} : PfS f mName := ⟨Prf.name, Suf.name⟩
theorem PfS.need {f : Nat} {s : List UInt8} : PfS f (mNeed s) := ⟨Prf.need, Suf.need⟩
theorem PfS.enter {f : Nat} {s : List UInt8} {d : Nat} : PfS f (mEnter s d) := ⟨Prf.enter, Suf.enter⟩
theorem PfS.num {f : Nat} : PfS f mNum := ⟨Prf.num, Suf.num⟩
theorem PfS.deep {f d : Nat} : PfS f (mDeep d) := ⟨Prf.deep, Suf.deep⟩
theorem PfS.op {f i : Nat} : PfS f (mOpI i) := ⟨Prf.op, Suf.op⟩
theorem PfS.before {f d : Nat} {s : List UInt8} {w : Want} (h : PfS f (mRead (.list w) d)) : PfS f (mBefore s w d) := ⟨Prf.before h.1, Suf.before h.2⟩
end Go.Proofs.YtdibcllakkjegaaGreatDoor
