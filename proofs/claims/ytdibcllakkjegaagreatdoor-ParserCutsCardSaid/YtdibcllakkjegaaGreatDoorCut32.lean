import Derived.Test.YtdibcllakkjegaaGreatDoorCut31
import Derived.Test.YtdibcllakkjegaaGreatDoorCut29
import Derived.Test.YtdibcllakkjegaaGreatDoorCut6
import Derived.Lib.QuietBelow
import Derived.Test.YtdibcllakkjegaaGreatDoorCut30

set_option linter.unusedVariables false
/-
  parser: one induction over all that is read, for relations between readers.
-/
set_option linter.unusedSimpArgs false
set_option linter.unusedVariables false
namespace Go.Proofs.YtdibcllakkjegaaGreatDoor
open Go Go.Proofs Go.RowKit
structure Cls (Q : (α : Type) → Nat → Rd α → Rd α → Prop) (D : Nat → Nat → Prop) : Prop where
  bind : ∀ {α β : Type} {f : Nat} {m m' : Rd α} {k k' : α → Rd β}, Q α f m m' → (∀ x, Q β f (k x) (k' x)) → Q β f (mBind m k) (mBind m' k')
  ite : ∀ {α : Type} {f : Nat} {c : Prop} [Decidable c] {m m' k k' : Rd α}, Q α f m m' → Q α f k k' → Q α f (if c then m else k) (if c then m' else k')
  ret : ∀ {α : Type} {f : Nat} {x : α}, Q α f (mRet x) (mRet x)
  peek : ∀ {f : Nat}, Q Tk f mPeek mPeek
  take : ∀ {f : Nat}, Q Tk f mTake mTake
  is : ∀ {f : Nat} {s : List UInt8}, Q Bool f (mIs s) (mIs s)
  op : ∀ {f i : Nat}, Q Bool f (mOpI i) (mOpI i)
  next : ∀ {f : Nat}, Q (List UInt8) f mNext mNext
  named : ∀ {f : Nat}, Q Bool f mNamed mNamed
  name : ∀ {f : Nat}, Q Tk f mName mName
  need : ∀ {f : Nat} {s : List UInt8}, Q Tk f (mNeed s) (mNeed s)
  enter : ∀ {f d d' : Nat} {s : List UInt8}, D d d' → Q Tk f (mEnter s d) (mEnter s d')
  deep : ∀ {f d d' : Nat}, D d d' → Q Tk f (mDeep d) (mDeep d')
  num : ∀ {f : Nat}, Q Int f mNum mNum
  succ : ∀ {d d' : Nat}, D d d' → D (d + 1) (d' + 1)
  up : ∀ {f : Nat} {m m' n n' : Rd (List Syn)}, Q (List Syn) f m m' → (∀ l, n (f + 1) l = m f l) → (∀ l, n' (f + 1) l = m' f l) → Q (List Syn) (f + 1) n n'
  zero : ∀ {w : Want} {d d' : Nat}, Q (List Syn) 0 (mRead w d) (mRead w d')
theorem before_eq (s : List UInt8) (w : Want) (d : Nat) : (mBefore s w d : Rd (List Syn)) = mBind (mIs s) fun b => if b = true then mRet [] else mRead (.list w) d := by
  funext f l
  simp only [mBefore, mBind, mIs, mRet, mRead, ok_ebind, ite_rd]
set_option maxHeartbeats 1000000 in
theorem Cls.read {Q : (α : Type) → Nat → Rd α → Rd α → Prop} {D : Nat → Nat → Prop} (C : Cls Q D) : ∀ (f : Nat) (w : Want) (d d' : Nat), D d d' → Q (List Syn) f (mRead w d) (mRead w d') := by
  intro f
  induction f with
  | zero => intro w d d' _; exact C.zero
  | succ f ih =>
    intro w d d' hd
    have bef : ∀ {s : List UInt8} {w : Want} {d d' : Nat}, D d d' → Q (List Syn) f (mBefore s w d) (mBefore s w d') := fun {s w d d'} h => by
      rw [before_eq, before_eq]
      exact C.bind C.is (fun _ => C.ite C.ret (ih _ _ _ h))
    cases w with
    | lvl i =>
      refine C.up ?_ (fun l => eqI_lvl (a := 0) (x := []) (w := .bare) f l) (fun l => eqI_lvl (a := 0) (x := []) (w := .bare) f l)
      unfold mLvl
      repeat' (first | with_reducible exact C.take | with_reducible exact C.deep hd | with_reducible exact C.op | with_reducible exact C.peek | with_reducible exact C.is | with_reducible exact C.named | with_reducible exact C.next | with_reducible exact C.name | with_reducible exact C.need | with_reducible exact C.enter hd | with_reducible exact C.num | with_reducible exact C.ret | with_reducible exact ih _ _ _ hd | with_reducible exact ih _ _ _ (C.succ hd) | with_reducible exact bef hd | with_reducible exact bef (C.succ hd) | (with_reducible refine C.bind ?_ (fun _ => ?_)) | (with_reducible refine C.ite ?_ ?_) | (unfold mStore) | (unfold mCallSt) | (unfold mAssign) | (unfold mChoice) | (unfold mLoop) | (unfold mClaim) | (unfold mVars) | (unfold mArray) | (unfold mParams) | (unfold mResults) | (unfold mWhen))
    | rep i a x =>
      refine C.up ?_ (fun l => eqI_rep (w := .bare) f l) (fun l => eqI_rep (w := .bare) f l)
      unfold mRepI
      repeat' (first | with_reducible exact C.take | with_reducible exact C.deep hd | with_reducible exact C.op | with_reducible exact C.peek | with_reducible exact C.is | with_reducible exact C.named | with_reducible exact C.next | with_reducible exact C.name | with_reducible exact C.need | with_reducible exact C.enter hd | with_reducible exact C.num | with_reducible exact C.ret | with_reducible exact ih _ _ _ hd | with_reducible exact ih _ _ _ (C.succ hd) | with_reducible exact bef hd | with_reducible exact bef (C.succ hd) | (with_reducible refine C.bind ?_ (fun _ => ?_)) | (with_reducible refine C.ite ?_ ?_) | (unfold mStore) | (unfold mCallSt) | (unfold mAssign) | (unfold mChoice) | (unfold mLoop) | (unfold mClaim) | (unfold mVars) | (unfold mArray) | (unfold mParams) | (unfold mResults) | (unfold mWhen))
    | bare =>
      refine C.up ?_ (fun l => eqI_bare (i := 0) (a := 0) (x := []) (w := .bare) f l) (fun l => eqI_bare (i := 0) (a := 0) (x := []) (w := .bare) f l)
      unfold mBareI
      repeat' (first | with_reducible exact C.take | with_reducible exact C.deep hd | with_reducible exact C.op | with_reducible exact C.peek | with_reducible exact C.is | with_reducible exact C.named | with_reducible exact C.next | with_reducible exact C.name | with_reducible exact C.need | with_reducible exact C.enter hd | with_reducible exact C.num | with_reducible exact C.ret | with_reducible exact ih _ _ _ hd | with_reducible exact ih _ _ _ (C.succ hd) | with_reducible exact bef hd | with_reducible exact bef (C.succ hd) | (with_reducible refine C.bind ?_ (fun _ => ?_)) | (with_reducible refine C.ite ?_ ?_) | (unfold mStore) | (unfold mCallSt) | (unfold mAssign) | (unfold mChoice) | (unfold mLoop) | (unfold mClaim) | (unfold mVars) | (unfold mArray) | (unfold mParams) | (unfold mResults) | (unfold mWhen))
    | place =>
      refine C.up ?_ (fun l => eqI_place (i := 0) (a := 0) (x := []) (w := .bare) f l) (fun l => eqI_place (i := 0) (a := 0) (x := []) (w := .bare) f l)
      unfold mPlaceI
      repeat' (first | with_reducible exact C.take | with_reducible exact C.deep hd | with_reducible exact C.op | with_reducible exact C.peek | with_reducible exact C.is | with_reducible exact C.named | with_reducible exact C.next | with_reducible exact C.name | with_reducible exact C.need | with_reducible exact C.enter hd | with_reducible exact C.num | with_reducible exact C.ret | with_reducible exact ih _ _ _ hd | with_reducible exact ih _ _ _ (C.succ hd) | with_reducible exact bef hd | with_reducible exact bef (C.succ hd) | (with_reducible refine C.bind ?_ (fun _ => ?_)) | (with_reducible refine C.ite ?_ ?_) | (unfold mStore) | (unfold mCallSt) | (unfold mAssign) | (unfold mChoice) | (unfold mLoop) | (unfold mClaim) | (unfold mVars) | (unfold mArray) | (unfold mParams) | (unfold mResults) | (unfold mWhen))
    | param =>
      refine C.up ?_ (fun l => eqI_param (i := 0) (a := 0) (x := []) (w := .bare) f l) (fun l => eqI_param (i := 0) (a := 0) (x := []) (w := .bare) f l)
      unfold mParamI
      repeat' (first | with_reducible exact C.take | with_reducible exact C.deep hd | with_reducible exact C.op | with_reducible exact C.peek | with_reducible exact C.is | with_reducible exact C.named | with_reducible exact C.next | with_reducible exact C.name | with_reducible exact C.need | with_reducible exact C.enter hd | with_reducible exact C.num | with_reducible exact C.ret | with_reducible exact ih _ _ _ hd | with_reducible exact ih _ _ _ (C.succ hd) | with_reducible exact bef hd | with_reducible exact bef (C.succ hd) | (with_reducible refine C.bind ?_ (fun _ => ?_)) | (with_reducible refine C.ite ?_ ?_) | (unfold mStore) | (unfold mCallSt) | (unfold mAssign) | (unfold mChoice) | (unfold mLoop) | (unfold mClaim) | (unfold mVars) | (unfold mArray) | (unfold mParams) | (unfold mResults) | (unfold mWhen))
    | list w =>
      refine C.up ?_ (fun l => eqI_list (i := 0) (a := 0) (x := []) f l) (fun l => eqI_list (i := 0) (a := 0) (x := []) f l)
      unfold mListI
      repeat' (first | with_reducible exact C.take | with_reducible exact C.deep hd | with_reducible exact C.op | with_reducible exact C.peek | with_reducible exact C.is | with_reducible exact C.named | with_reducible exact C.next | with_reducible exact C.name | with_reducible exact C.need | with_reducible exact C.enter hd | with_reducible exact C.num | with_reducible exact C.ret | with_reducible exact ih _ _ _ hd | with_reducible exact ih _ _ _ (C.succ hd) | with_reducible exact bef hd | with_reducible exact bef (C.succ hd) | (with_reducible refine C.bind ?_ (fun _ => ?_)) | (with_reducible refine C.ite ?_ ?_) | (unfold mStore) | (unfold mCallSt) | (unfold mAssign) | (unfold mChoice) | (unfold mLoop) | (unfold mClaim) | (unfold mVars) | (unfold mArray) | (unfold mParams) | (unfold mResults) | (unfold mWhen))
    | load =>
      refine C.up ?_ (fun l => eq_load f l) (fun l => eq_load f l)
      unfold mLoad
      repeat' (first | with_reducible exact C.take | with_reducible exact C.deep hd | with_reducible exact C.op | with_reducible exact C.peek | with_reducible exact C.is | with_reducible exact C.named | with_reducible exact C.next | with_reducible exact C.name | with_reducible exact C.need | with_reducible exact C.enter hd | with_reducible exact C.num | with_reducible exact C.ret | with_reducible exact ih _ _ _ hd | with_reducible exact ih _ _ _ (C.succ hd) | with_reducible exact bef hd | with_reducible exact bef (C.succ hd) | (with_reducible refine C.bind ?_ (fun _ => ?_)) | (with_reducible refine C.ite ?_ ?_) | (unfold mStore) | (unfold mCallSt) | (unfold mAssign) | (unfold mChoice) | (unfold mLoop) | (unfold mClaim) | (unfold mVars) | (unfold mArray) | (unfold mParams) | (unfold mResults) | (unfold mWhen))
    | call =>
      refine C.up ?_ (fun l => eq_call f l) (fun l => eq_call f l)
      unfold mCall
      repeat' (first | with_reducible exact C.take | with_reducible exact C.deep hd | with_reducible exact C.op | with_reducible exact C.peek | with_reducible exact C.is | with_reducible exact C.named | with_reducible exact C.next | with_reducible exact C.name | with_reducible exact C.need | with_reducible exact C.enter hd | with_reducible exact C.num | with_reducible exact C.ret | with_reducible exact ih _ _ _ hd | with_reducible exact ih _ _ _ (C.succ hd) | with_reducible exact bef hd | with_reducible exact bef (C.succ hd) | (with_reducible refine C.bind ?_ (fun _ => ?_)) | (with_reducible refine C.ite ?_ ?_) | (unfold mStore) | (unfold mCallSt) | (unfold mAssign) | (unfold mChoice) | (unfold mLoop) | (unfold mClaim) | (unfold mVars) | (unfold mArray) | (unfold mParams) | (unfold mResults) | (unfold mWhen))
    | right =>
      refine C.up ?_ (fun l => eq_right f l) (fun l => eq_right f l)
      unfold mRight
      repeat' (first | with_reducible exact C.take | with_reducible exact C.deep hd | with_reducible exact C.op | with_reducible exact C.peek | with_reducible exact C.is | with_reducible exact C.named | with_reducible exact C.next | with_reducible exact C.name | with_reducible exact C.need | with_reducible exact C.enter hd | with_reducible exact C.num | with_reducible exact C.ret | with_reducible exact ih _ _ _ hd | with_reducible exact ih _ _ _ (C.succ hd) | with_reducible exact bef hd | with_reducible exact bef (C.succ hd) | (with_reducible refine C.bind ?_ (fun _ => ?_)) | (with_reducible refine C.ite ?_ ?_) | (unfold mStore) | (unfold mCallSt) | (unfold mAssign) | (unfold mChoice) | (unfold mLoop) | (unfold mClaim) | (unfold mVars) | (unfold mArray) | (unfold mParams) | (unfold mResults) | (unfold mWhen))
    | block =>
      refine C.up ?_ (fun l => eq_block f l) (fun l => eq_block f l)
      unfold mBlock
      repeat' (first | with_reducible exact C.take | with_reducible exact C.deep hd | with_reducible exact C.op | with_reducible exact C.peek | with_reducible exact C.is | with_reducible exact C.named | with_reducible exact C.next | with_reducible exact C.name | with_reducible exact C.need | with_reducible exact C.enter hd | with_reducible exact C.num | with_reducible exact C.ret | with_reducible exact ih _ _ _ hd | with_reducible exact ih _ _ _ (C.succ hd) | with_reducible exact bef hd | with_reducible exact bef (C.succ hd) | (with_reducible refine C.bind ?_ (fun _ => ?_)) | (with_reducible refine C.ite ?_ ?_) | (unfold mStore) | (unfold mCallSt) | (unfold mAssign) | (unfold mChoice) | (unfold mLoop) | (unfold mClaim) | (unfold mVars) | (unfold mArray) | (unfold mParams) | (unfold mResults) | (unfold mWhen))
    | stmt =>
      refine C.up ?_ (fun l => eq_stmt f l) (fun l => eq_stmt f l)
      unfold mStmt
      repeat' (first | with_reducible exact C.take | with_reducible exact C.deep hd | with_reducible exact C.op | with_reducible exact C.peek | with_reducible exact C.is | with_reducible exact C.named | with_reducible exact C.next | with_reducible exact C.name | with_reducible exact C.need | with_reducible exact C.enter hd | with_reducible exact C.num | with_reducible exact C.ret | with_reducible exact ih _ _ _ hd | with_reducible exact ih _ _ _ (C.succ hd) | with_reducible exact bef hd | with_reducible exact bef (C.succ hd) | (with_reducible refine C.bind ?_ (fun _ => ?_)) | (with_reducible refine C.ite ?_ ?_) | (unfold mStore) | (unfold mCallSt) | (unfold mAssign) | (unfold mChoice) | (unfold mLoop) | (unfold mClaim) | (unfold mVars) | (unfold mArray) | (unfold mParams) | (unfold mResults) | (unfold mWhen))
    | chain a =>
      refine C.up ?_ (fun l => eq_chain f l) (fun l => eq_chain f l)
      unfold mChain
      repeat' (first | with_reducible exact C.take | with_reducible exact C.deep hd | with_reducible exact C.op | with_reducible exact C.peek | with_reducible exact C.is | with_reducible exact C.named | with_reducible exact C.next | with_reducible exact C.name | with_reducible exact C.need | with_reducible exact C.enter hd | with_reducible exact C.num | with_reducible exact C.ret | with_reducible exact ih _ _ _ hd | with_reducible exact ih _ _ _ (C.succ hd) | with_reducible exact bef hd | with_reducible exact bef (C.succ hd) | (with_reducible refine C.bind ?_ (fun _ => ?_)) | (with_reducible refine C.ite ?_ ?_) | (unfold mStore) | (unfold mCallSt) | (unfold mAssign) | (unfold mChoice) | (unfold mLoop) | (unfold mClaim) | (unfold mVars) | (unfold mArray) | (unfold mParams) | (unfold mResults) | (unfold mWhen))
    | body =>
      refine C.up ?_ (fun l => eq_body f l) (fun l => eq_body f l)
      unfold mBody
      repeat' (first | with_reducible exact C.take | with_reducible exact C.deep hd | with_reducible exact C.op | with_reducible exact C.peek | with_reducible exact C.is | with_reducible exact C.named | with_reducible exact C.next | with_reducible exact C.name | with_reducible exact C.need | with_reducible exact C.enter hd | with_reducible exact C.num | with_reducible exact C.ret | with_reducible exact ih _ _ _ hd | with_reducible exact ih _ _ _ (C.succ hd) | with_reducible exact bef hd | with_reducible exact bef (C.succ hd) | (with_reducible refine C.bind ?_ (fun _ => ?_)) | (with_reducible refine C.ite ?_ ?_) | (unfold mStore) | (unfold mCallSt) | (unfold mAssign) | (unfold mChoice) | (unfold mLoop) | (unfold mClaim) | (unfold mVars) | (unfold mArray) | (unfold mParams) | (unfold mResults) | (unfold mWhen))
    | record =>
      refine C.up ?_ (fun l => eq_record f l) (fun l => eq_record f l)
      unfold mRecord
      repeat' (first | with_reducible exact C.take | with_reducible exact C.deep hd | with_reducible exact C.op | with_reducible exact C.peek | with_reducible exact C.is | with_reducible exact C.named | with_reducible exact C.next | with_reducible exact C.name | with_reducible exact C.need | with_reducible exact C.enter hd | with_reducible exact C.num | with_reducible exact C.ret | with_reducible exact ih _ _ _ hd | with_reducible exact ih _ _ _ (C.succ hd) | with_reducible exact bef hd | with_reducible exact bef (C.succ hd) | (with_reducible refine C.bind ?_ (fun _ => ?_)) | (with_reducible refine C.ite ?_ ?_) | (unfold mStore) | (unfold mCallSt) | (unfold mAssign) | (unfold mChoice) | (unfold mLoop) | (unfold mClaim) | (unfold mVars) | (unfold mArray) | (unfold mParams) | (unfold mResults) | (unfold mWhen))
    | proc =>
      refine C.up ?_ (fun l => eq_proc f l) (fun l => eq_proc f l)
      unfold mProc
      repeat' (first | with_reducible exact C.take | with_reducible exact C.deep hd | with_reducible exact C.op | with_reducible exact C.peek | with_reducible exact C.is | with_reducible exact C.named | with_reducible exact C.next | with_reducible exact C.name | with_reducible exact C.need | with_reducible exact C.enter hd | with_reducible exact C.num | with_reducible exact C.ret | with_reducible exact ih _ _ _ hd | with_reducible exact ih _ _ _ (C.succ hd) | with_reducible exact bef hd | with_reducible exact bef (C.succ hd) | (with_reducible refine C.bind ?_ (fun _ => ?_)) | (with_reducible refine C.ite ?_ ?_) | (unfold mStore) | (unfold mCallSt) | (unfold mAssign) | (unfold mChoice) | (unfold mLoop) | (unfold mClaim) | (unfold mVars) | (unfold mArray) | (unfold mParams) | (unfold mResults) | (unfold mWhen))
    | decls =>
      refine C.up ?_ (fun l => eq_decls f l) (fun l => eq_decls f l)
      unfold mDecls
      repeat' (first | with_reducible exact C.take | with_reducible exact C.deep hd | with_reducible exact C.op | with_reducible exact C.peek | with_reducible exact C.is | with_reducible exact C.named | with_reducible exact C.next | with_reducible exact C.name | with_reducible exact C.need | with_reducible exact C.enter hd | with_reducible exact C.num | with_reducible exact C.ret | with_reducible exact ih _ _ _ hd | with_reducible exact ih _ _ _ (C.succ hd) | with_reducible exact bef hd | with_reducible exact bef (C.succ hd) | (with_reducible refine C.bind ?_ (fun _ => ?_)) | (with_reducible refine C.ite ?_ ?_) | (unfold mStore) | (unfold mCallSt) | (unfold mAssign) | (unfold mChoice) | (unfold mLoop) | (unfold mClaim) | (unfold mVars) | (unfold mArray) | (unfold mParams) | (unfold mResults) | (unfold mWhen))
    | stmts =>
      refine C.up ?_ (fun l => eq_stmts f l) (fun l => eq_stmts f l)
      unfold mStmts
      repeat' (first | with_reducible exact C.take | with_reducible exact C.deep hd | with_reducible exact C.op | with_reducible exact C.peek | with_reducible exact C.is | with_reducible exact C.named | with_reducible exact C.next | with_reducible exact C.name | with_reducible exact C.need | with_reducible exact C.enter hd | with_reducible exact C.num | with_reducible exact C.ret | with_reducible exact ih _ _ _ hd | with_reducible exact ih _ _ _ (C.succ hd) | with_reducible exact bef hd | with_reducible exact bef (C.succ hd) | (with_reducible refine C.bind ?_ (fun _ => ?_)) | (with_reducible refine C.ite ?_ ?_) | (unfold mStore) | (unfold mCallSt) | (unfold mAssign) | (unfold mChoice) | (unfold mLoop) | (unfold mClaim) | (unfold mVars) | (unfold mArray) | (unfold mParams) | (unfold mResults) | (unfold mWhen))
    | program a =>
      refine C.up ?_ (fun l => eq_program f l) (fun l => eq_program f l)
      unfold mProgram
      repeat' (first | with_reducible exact C.take | with_reducible exact C.deep hd | with_reducible exact C.op | with_reducible exact C.peek | with_reducible exact C.is | with_reducible exact C.named | with_reducible exact C.next | with_reducible exact C.name | with_reducible exact C.need | with_reducible exact C.enter hd | with_reducible exact C.num | with_reducible exact C.ret | with_reducible exact ih _ _ _ hd | with_reducible exact ih _ _ _ (C.succ hd) | with_reducible exact bef hd | with_reducible exact bef (C.succ hd) | (with_reducible refine C.bind ?_ (fun _ => ?_)) | (with_reducible refine C.ite ?_ ?_) | (unfold mStore) | (unfold mCallSt) | (unfold mAssign) | (unfold mChoice) | (unfold mLoop) | (unfold mClaim) | (unfold mVars) | (unfold mArray) | (unfold mParams) | (unfold mResults) | (unfold mWhen))
    | cond =>
      exact C.up (ih (.lvl 0) d d' hd) (fun l => by unfold mRead; rw [pRead]) (fun l => by unfold mRead; rw [pRead])
def Ne1 {α : Type} (f : Nat) (m : Rd α) : Prop := ∀ l x l', l ≠ [] → m f l = .ok (x, l') → l' ≠ []
theorem Ne1.bind {α β : Type} {f : Nat} {m : Rd α} {k : α → Rd β} (h : Ne1 f m) (g : ∀ x, Ne1 f (k x)) : Ne1 f (mBind m k) := fun l x l' hl e => by
  obtain ⟨⟨y, l1⟩, e1, e2⟩ := ebind_ok e
  exact g y l1 x l' (h l y l1 hl e1) e2
def tst {α : Type} (r : Except (Int × Nat) α) (l : List Tk) : Except (Int × Nat) (α × List Tk) := match r with | .ok z => .ok (z, l) | .error e => .error e
theorem Ne1.test {α : Type} {f : Nat} {m : Rd α} (q : Tk → Except (Int × Nat) α) (hm : ∀ l, m f l = tst (q (pHd l)) (pTl l)) : Ne1 f m := fun l x l' hl e => by
  rw [hm] at e
  cases hq : q (pHd l) with
  | error p => rw [hq] at e; cases e
  | ok z => rw [hq] at e; cases e; exact pTl_ne hl
theorem Ne1.look {α : Type} {f : Nat} {m : Rd α} (q : List Tk → α) (hm : ∀ l, m f l = .ok (q l, l)) : Ne1 f m := fun l x l' hl e => by
  rw [hm] at e; cases e; exact hl
def qName : Tk → Except (Int × Nat) Tk := fun t : Tk => if pNamed t = true then Except.ok t else .error (t.a, 4)
def qNeed (s : List UInt8) : Tk → Except (Int × Nat) Tk := fun t : Tk => if (bytes t.t == s) = true then Except.ok t else .error (t.a, 4)
def qEnter (s : List UInt8) (d : Nat) : Tk → Except (Int × Nat) Tk := fun t : Tk => if (bytes t.t == s) = true then (if d = 64 then Except.error (t.a, 12) else .ok t) else .error (t.a, 4)
def qNum : Tk → Except (Int × Nat) Int := fun t : Tk => if t.k = 1 then (if 1048576 < pNum (bytes t.t) then Except.error (t.a, 2) else .ok (pNum (bytes t.t) : Int)) else .error (t.a, 4)
def qDeep (d : Nat) : Tk → Except (Int × Nat) Tk := fun t : Tk => if d = 64 then Except.error (t.a, 12) else .ok t
theorem name_test (f : Nat) (l : List Tk) : mName f l = tst (qName (pHd l)) (pTl l) := by
  unfold tst qName
  unfold mName pName
  split <;> simp [*]
theorem need_test (s : List UInt8) (f : Nat) (l : List Tk) : mNeed s f l = tst (qNeed s (pHd l)) (pTl l) := by
  unfold tst qNeed
  unfold mNeed pIs
  split <;> simp [*]
theorem enter_test (s : List UInt8) (d f : Nat) (l : List Tk) : mEnter s d f l = tst (qEnter s d (pHd l)) (pTl l) := by
  unfold tst qEnter
  unfold mEnter pIs
  split
  · split <;> simp [*]
  · simp [*]
theorem num_test (f : Nat) (l : List Tk) : mNum f l = tst (qNum (pHd l)) (pTl l) := by
  unfold tst qNum
  unfold mNum
  split
  · split <;> simp [*]
  · simp [*]
theorem deep_test (d f : Nat) (l : List Tk) : mDeep d f l = tst (qDeep d (pHd l)) (pTl l) := by
  unfold tst qDeep
  unfold mDeep
  split <;> simp [*]
theorem neCls : Cls (fun _ f m _ => Ne1 f m) (fun _ _ => True) where
  bind h g := Ne1.bind h g
  ite h g := by split <;> assumption
  ret := Ne1.look (fun _ => _) fun _ => rfl
  peek := Ne1.look (fun l => pHd l) fun _ => rfl
  take := Ne1.test (fun t => .ok t) fun _ => rfl
  is := Ne1.look (fun l => _) fun _ => rfl
  op := Ne1.look (fun l => _) fun _ => rfl
  next := Ne1.look (fun l => _) fun _ => rfl
  named := Ne1.look (fun l => _) fun _ => rfl
  name := Ne1.test _ (name_test _)
  need := Ne1.test _ (need_test _ _)
  enter _ := Ne1.test _ (enter_test _ _ _)
  deep _ := Ne1.test _ (deep_test _ _)
  num {f} := Ne1.test _ (num_test f)
  succ _ := trivial
  up h e _ := fun l x l' hl q => h l x l' hl ((e l).symm.trans q)
  zero := fun l x l' _ e => by unfold mRead at e; rw [pRead] at e; cases e
theorem ne_read (f : Nat) (w : Want) (d : Nat) : Ne1 f (mRead w d) := neCls.read f w d d trivial
def Simt (t u : Tk) : Prop := t.k = u.k ∧ t.t = u.t
def Sim : List Tk → List Tk → Prop
  | [], [] => True
  | t :: l, u :: m => Simt t u ∧ Sim l m
  | _, _ => False
theorem Sim.hd : ∀ {l m : List Tk}, Sim l m → Simt (pHd l) (pHd m)
  | [], [], _ => ⟨rfl, rfl⟩
  | [], _ :: _, h => by cases h
  | _ :: _, [], h => by cases h
  | t :: l, u :: m, h => h.1
theorem Sim.tl : ∀ {l m : List Tk}, Sim l m → Sim (pTl l) (pTl m)
  | [], [], _ => trivial
  | [], _ :: _, h => by cases h
  | _ :: _, [], h => by cases h
  | [t], [u], h => h
  | [t], u :: v :: m, h => by cases h.2
  | t :: s :: l, [u], h => by cases h.2
  | t :: s :: l, u :: v :: m, h => h.2
theorem Sim.is {l m : List Tk} (s : List UInt8) (h : Sim l m) : pIs s l = pIs s m := by unfold pIs; rw [h.hd.2]
theorem Sim.op {l m : List Tk} (i : Nat) (h : Sim l m) : pOp i l = pOp i m := by unfold pOp; rw [h.hd.2]
theorem Sim.nm {l m : List Tk} (h : Sim l m) : pNamed (pHd l) = pNamed (pHd m) := by unfold pNamed; rw [h.hd.1, h.hd.2]
theorem Sim.nx {l m : List Tk} (h : Sim l m) : pNext l = pNext m := by unfold pNext; rw [h.tl.hd.2]
def ES {α : Type} (R : α → α → Prop) : Except (Int × Nat) α → Except (Int × Nat) α → Prop
  | .ok a, .ok b => R a b
  | .error p, .error q => p.2 = q.2
  | _, _ => False
theorem ES.bind {α β : Type} {R : α → α → Prop} {S : β → β → Prop} {m m' : Except (Int × Nat) α} {k k' : α → Except (Int × Nat) β} (h : ES R m m') (g : ∀ a b, R a b → ES S (k a) (k' b)) : ES S (m >>= k) (m' >>= k') := by
  cases m with
  | error p =>
    cases m' with
    | error q => exact h
    | ok b => cases h
  | ok a =>
    cases m' with
    | error q => cases h
    | ok b => exact g a b h
theorem ES.ite {α : Type} {R : α → α → Prop} {c c' : Prop} [Decidable c] [Decidable c'] {a a' b b' : Except (Int × Nat) α} (hc : c = c') (h : ES R a a') (g : ES R b b') : ES R (if c then a else b) (if c' then a' else b') := by
  subst hc
  by_cases q : c
  · rw [if_pos q, if_pos q]; exact h
  · rw [if_neg q, if_neg q]; exact g
abbrev RL (p q : List Syn × List Tk) : Prop := bareL p.1 = bareL q.1 ∧ Sim p.2 q.2
abbrev RT (p q : Tk × List Tk) : Prop := Simt p.1 q.1 ∧ Sim p.2 q.2
theorem ES.name {l m : List Tk} (h : Sim l m) : ES RT (pName l) (pName m) := by
  unfold pName
  exact ES.ite (by rw [h.nm]) ⟨h.hd, h.tl⟩ rfl
theorem ES.need {l m : List Tk} (s : List UInt8) (h : Sim l m) : ES Sim (pNeed s l) (pNeed s m) := by
  unfold pNeed
  exact ES.ite (by rw [h.is]) h.tl rfl
theorem bareL_append : ∀ a b : List Syn, bareL (a ++ b) = bareL a ++ bareL b
  | [], b => by rw [bareL]; rfl
  | x :: a, b => by rw [List.cons_append, bareL, bareL, bareL_append a b]; rfl
def kidsOf : Syn → List Syn
  | .mk _ _ _ _ ks => ks
theorem bare_kids : ∀ {x y : List Syn}, bareL x = bareL y → bareL (x.flatMap kidsOf) = bareL (y.flatMap kidsOf)
  | [], [], _ => rfl
  | [], y :: ys, h => by rw [bareL, bareL] at h; cases h
  | x :: xs, [], h => by rw [bareL, bareL] at h; cases h
  | .mk k a t n ks :: xs, .mk k' a' t' n' ls :: ys, h => by
    rw [bareL, bareL, List.cons.injEq, bareS, bareS, Syn.mk.injEq] at h
    rw [List.flatMap_cons, List.flatMap_cons, bareL_append, bareL_append, bare_kids h.2]
    show bareL ks ++ _ = bareL ls ++ _
    rw [h.1.2.2.2.2]
theorem ES.oks {x y : List Syn} {l m : List Tk} (h : bareL x = bareL y) (g : Sim l m) : ES RL (pure (x, l)) (pure (y, m)) := ⟨h, g⟩
theorem ES.oks2 {x y : List Syn} {l m : List Tk} (h : bareL x = bareL y) (g : Sim l m) : ES RL (.ok (x, l)) (.ok (y, m)) := ⟨h, g⟩
theorem bare_one {k a b n : Int} {t u : ByteArray} {x y : List Syn} (h : bareL x = bareL y) (e : t = u) : bareL [.mk k a t n x] = bareL [.mk k b u n y] := by
  simp only [bareL, bareS, h, e]
theorem Sim.ite {c c' : Prop} [Decidable c] [Decidable c'] {a a' b b' : List Tk} (hc : c = c') (h : Sim a a') (g : Sim b b') : Sim (if c then a else b) (if c' then a' else b') := by
  subst hc
  by_cases q : c
  · rw [if_pos q, if_pos q]; exact h
  · rw [if_neg q, if_neg q]; exact g
def WS : Want → Want → Prop
  | .rep i _ x, .rep j _ y => i = j ∧ bareL x = bareL y
  | .chain _, .chain _ => True
  | .program _, .program _ => True
  | w, w' => w = w'
theorem WS.same (w : Want) : WS w w := by cases w <;> first | exact rfl | exact trivial | exact ⟨rfl, rfl⟩
theorem WS.rep {i : Nat} {a b : Int} {x y : List Syn} (h : bareL x = bareL y) : WS (.rep i a x) (.rep i b y) := ⟨rfl, h⟩
theorem WS.chain {a b : Int} : WS (.chain a) (.chain b) := trivial
theorem WS.prog {a b : Int} : WS (.program a) (.program b) := trivial
set_option maxHeartbeats 2000000 in
theorem pRead_sim : ∀ (f : Nat) (w w' : Want) (d : Nat) (l m : List Tk), WS w w' → Sim l m → ES RL (pRead f w d l) (pRead f w' d m)
  | 0, w, w', d, l, m, _, _ => by rw [pRead, pRead]; exact rfl
  | f + 1, w, w', d, l, m, hw, h => by
    have ih : ∀ w w' d l m, WS w w' → Sim l m → ES RL (pRead f w d l) (pRead f w' d m) := fun w w' d l m => pRead_sim f w w' d l m
    have t0 := h.hd.2
    have t3 := fun s => h.is s
    have t4 := h.tl.hd.2
    cases w <;> cases w' <;> (first | (exfalso; cases hw; done) | skip) <;> (try (cases hw)) <;> (try subst_vars) <;> rw [pRead, pRead] <;> (try dsimp only) <;>
      (repeat' (first
        | assumption
        | exact (rfl : (_ : Nat) = _)
        | exact Sim.tl (by assumption)
        | exact Sim.tl (Sim.tl (by assumption))
        | refine Sim.ite ?_ (Sim.tl (by assumption)) (by assumption)
        | refine ES.oks ?_ ?_
        | refine ES.oks2 ?_ ?_
        | refine ih _ _ _ _ _ ?_ ?_
        | (refine ES.bind (R := RT) (ES.name ?_) ?_; rotate_left; (rintro ⟨t1, l1⟩ ⟨t2, m1⟩ ⟨⟨g1, g2⟩, g3⟩; (try dsimp only at *); have g4 := g3.hd.2); rotate_left)
        | (refine ES.bind (R := Sim) (ES.need _ ?_) ?_; rotate_left; (intro l1 m1 g3; have g4 := g3.hd.2; have g5 := g3.tl.hd.2); rotate_left)
        | (refine ES.bind (R := RL) ?_ ?_; rotate_left; (rintro ⟨x1, l1⟩ ⟨y1, m1⟩ ⟨g1, g2⟩; (try dsimp only at *); have g4 := g2.hd.2); rotate_left)
        | refine ES.ite ?_ ?_ ?_
        | refine WS.rep ?_
        | exact WS.chain
        | exact WS.prog
        | exact WS.same _
        | exact (rfl : bareL _ = bareL _)
        | exact bare_kids (by assumption)
        | (simp only [bareL, bareS, bareL_append, pLeaf, *]; done)
        | exact bare_one (by rw [bareL_append, bareL_append]; exact congr (congrArg _ (bare_kids (by assumption))) (by assumption)) (by assumption)
        | exact (rfl : (_ : Prop) = _)
        | refine congrArg (fun z : Bool => z = true) (Sim.is _ ?_)
        | refine congrArg (fun z : Bool => z = true) (Sim.op _ ?_)
        | refine congrArg (fun z : Bool => z = true) (Sim.nm ?_)
        | refine congrArg (fun z : List UInt8 => z = _) (Sim.nx ?_)
        | refine congrArg (fun z : Int => z = 1) (Sim.hd ?_).1
        | refine congrArg (fun z : Int => z ≠ 1) (Sim.hd ?_).1
        | refine congrArg (fun z : ByteArray => 1048576 < pNum (bytes z)) (Sim.hd ?_).2
        | refine congr (congrArg Or ?_) ?_
        | refine congr (congrArg And ?_) ?_))
theorem pLim_ok {w : Want} {d : Nat} {l : List Tk} {r : List Syn × List Tk} (h : pLim w d l = .ok r) : ∃ f, pRead f w d l = .ok r := by
  unfold pLim at h
  split at h
  · rename_i q
    exact ⟨_, h⟩
  · cases h
theorem pTk_ok {k : Nat} {l : List Tk} {x : Syn} (h : pTk k l = .ok x) : ∃ f xs r, pRead f (entW k l) 0 l = .ok (xs, r) ∧ pIs [] r = true ∧ x = entT k l xs := by
  unfold pTk at h
  cases hp : pLim (entW k l) 0 l with
  | error p => rw [hp] at h; cases h
  | ok q =>
    obtain ⟨xs, r⟩ := q
    rw [hp] at h
    unfold pDone at h
    dsimp only at h
    by_cases hr : pIs [] r = true
    · rw [if_pos hr] at h
      obtain ⟨f, hf⟩ := pLim_ok hp
      cases h
      exact ⟨f, xs, r, hf, hr, rfl⟩
    · rw [if_neg hr] at h
      cases h
theorem pTk_of {k f : Nat} {l r : List Tk} {xs : List Syn} (h : pRead f (entW k l) 0 l = .ok (xs, r)) (hr : pIs [] r = true) : pTk k l = .ok (entT k l xs) := by
  unfold pTk
  rw [pLim_of h (fun q => by cases q)]
  unfold pDone
  dsimp only
  rw [if_pos hr]
abbrev tE (a : Int) : Tk := ⟨3, ⟨#[]⟩, a⟩
theorem end_suf {V l : List Tk} {a : Int} (h : l <:+ V ++ [tE a]) (hl : l ≠ []) : ∃ V1, l = V1 ++ [tE a] := by
  obtain ⟨T, hT⟩ := h
  obtain ⟨l0, x, rfl⟩ : ∃ l0 x, l = l0 ++ [x] := ⟨l.dropLast, l.getLast hl, (List.dropLast_concat_getLast hl).symm⟩
  rw [← List.append_assoc] at hT
  have h2 := (List.append_inj' hT rfl).2
  exact ⟨l0, by rw [h2]⟩
def Shut {α : Type} (f : Nat) (m : Rd α) : Prop := ∀ a : Int, (∀ y r, m f [tE a] ≠ .ok (y, r)) ∧ ∀ (V S' : List Tk) (y : α), S' ≠ [] → m f (V ++ [tE a]) = .ok (y, [tE a]) → m f (V ++ S') = .ok (y, S')
section
variable {α β : Type} {f : Nat}
theorem Shut.test {m : Rd α} (q : Tk → Except (Int × Nat) α) (hm : ∀ l, m f l = tst (q (pHd l)) (pTl l)) (he : ∀ a z, q (tE a) ≠ .ok z) : Shut f m := fun a => by
  refine ⟨fun y r e => ?_, fun V S' y hS e => ?_⟩
  · rw [hm] at e
    cases hq : q (pHd [tE a]) with
    | error p => rw [hq] at e; cases e
    | ok z => exact he a z hq
  · cases V with
    | nil =>
      exfalso
      rw [List.nil_append, hm] at e
      cases hq : q (pHd [tE a]) with
      | error p => rw [hq] at e; cases e
      | ok z => exact he a z hq
    | cons v V =>
      rw [hm] at e
      cases hq : q (pHd (v :: V ++ [tE a])) with
      | error p => rw [hq] at e; cases e
      | ok z =>
        rw [hq] at e
        unfold tst at e
        dsimp only at e
        rw [tl_cons (by simp), Except.ok.injEq, Prod.mk.injEq] at e
        obtain ⟨rfl, e⟩ := e
        have : V = [] := by
          have := congrArg List.length e
          simp at this
          exact this
        subst this
        have hq2 : q (pHd ([v] ++ S')) = .ok z := hq
        rw [hm, hq2]
        obtain ⟨x, S', rfl⟩ := List.exists_cons_of_ne_nil hS
        rfl
theorem Shut.need {s : List UInt8} (h : s ≠ []) : Shut f (mNeed s) := Shut.test _ (need_test s f) fun a z e => by
  unfold qNeed at e
  cases s with
  | nil => exact h rfl
  | cons c s => cases e
theorem Shut.bind {m : Rd α} {k : α → Rd β} (h : PfS f m) (n : Ne1 f m) (g : ∀ x, Shut f (k x)) : Shut f (mBind m k) := fun a => by
  have key : ∀ (V : List Tk) x l1, m f (V ++ [tE a]) = .ok (x, l1) → ∃ V1, l1 = V1 ++ [tE a] := fun V x l1 e => end_suf (h.2 _ _ _ e) (n _ _ _ (by simp) e)
  refine ⟨fun y r e => ?_, fun V S' y hS e => ?_⟩
  · obtain ⟨⟨x, l1⟩, e1, e2⟩ := ebind_ok e
    have h2 := h.2 _ _ _ e1
    obtain ⟨V1, rfl⟩ := key [] x l1 e1
    have : V1 = [] := by
      have := h2.length_le
      simp at this
      exact this
    subst this
    exact (g x a).1 _ _ e2
  · obtain ⟨⟨x, l1⟩, e1, e2⟩ := ebind_ok e
    obtain ⟨V1, rfl⟩ := key V x l1 e1
    have hV : V1 ≠ [] := fun q => by subst q; exact (g x a).1 _ _ e2
    have a1 := h.1 V V1 [tE a] S' x (by simp) hS hV e1
    have a2 := (g x a).2 V1 S' y hS e2
    show (m f (V ++ S') >>= fun p => k p.1 f p.2) = _
    rw [a1]
    exact a2
theorem Shut.last {m : Rd α} {g : α → β} (h : Shut f m) : Shut f (mBind m fun x => mRet (g x)) := fun a => by
  refine ⟨fun y r e => ?_, fun V S' y hS e => ?_⟩
  · obtain ⟨⟨x, l1⟩, e1, e2⟩ := ebind_ok e
    exact (h a).1 _ _ e1
  · obtain ⟨⟨x, l1⟩, e1, e2⟩ := ebind_ok e
    cases e2
    have := (h a).2 V S' x hS e1
    show (m f (V ++ S') >>= _) = _
    rw [this]; rfl
theorem Shut.ite {c : Prop} [Decidable c] {m k : Rd α} (h : Shut f m) (g : Shut f k) : Shut f (if c then m else k) := by split <;> assumption
theorem Shut.up {m n : Rd α} (h : Shut f m) (e : ∀ l, n (f + 1) l = m f l) : Shut (f + 1) n := fun a => ⟨fun y r q => (h a).1 y r ((e _).symm.trans q), fun V S' y hS q => (e _).trans ((h a).2 V S' y hS ((e _).symm.trans q))⟩
end
def Inr (m : Nat) (t : Tk) : Prop := (∀ i, m ≤ i → (pOps i).contains (bytes t.t) = false) ∧ (bytes t.t == [46]) = false
theorem left_end {f : Nat} {w : Want} {d : Nat} {V : List Tk} {a : Int} {x : List Syn} {l1 : List Tk} (h : pRead f w d (V ++ [tE a]) = .ok (x, l1)) : ∃ V1, l1 = V1 ++ [tE a] :=
  end_suf (suf_read f w d _ _ _ h) (ne_read f w d _ _ _ (by simp) h)
theorem Inr.op {m i : Nat} {S' : List Tk} (h : Inr m (pHd S')) (hi : m ≤ i) : pOp i S' = false := h.1 i hi
abbrev nk (t : Int × List UInt8 × Nat) : Int × List UInt8 := (t.1, t.2.1)
def B (l : List UInt8) : Option (List (Int × List UInt8)) := if (sqR l).2.2 = 0 then some ((sqR l).1.map nk) else none
theorem Sim.symm : ∀ {l m : List Tk}, Sim l m → Sim m l
  | [], [], _ => trivial
  | [], _ :: _, h => by cases h
  | _ :: _, [], h => by cases h
  | t :: l, u :: m, h => ⟨⟨h.1.1.symm, h.1.2.symm⟩, h.2.symm⟩
theorem pAns_ok {k : Nat} {s : ByteArray} {x : Syn} (h : pAns k s = .ok x) : (scR s).2.2 = 0 ∧ ∃ (V : List Tk) (e : Int) (f : Nat) (xs : List Syn), (scR s).1 = V ++ [tE e] ∧ (∀ t ∈ V, okX (bytes t.t) ∧ t.k = tkd (bytes t.t)) ∧ pRead f (entW k (V ++ [tE e])) 0 (V ++ [tE e]) = .ok (xs, [tE e]) ∧ x = entT k (V ++ [tE e]) xs ∧ s.size ≤ 65536 := by
  unfold pAns at h
  by_cases he : (scR s).2.2 = 0
  · rw [if_pos he] at h
    have hz := scan_long he
    obtain ⟨V, e, hV, hok, -⟩ := scan_form hz he
    obtain ⟨f, xs, r, h1, h2, h3⟩ := pTk_ok h
    rw [hV] at h1 h3
    obtain ⟨V1, rfl⟩ := left_end h1
    have hsu := suf_read f _ _ _ _ _ h1
    have : V1 = [] := by
      cases V1 with
      | nil => rfl
      | cons v V1 =>
        exfalso
        have hm : v ∈ V := by
          have := hsu.mem (show v ∈ v :: V1 ++ [tE e] by simp)
          rcases List.mem_append.1 this with q | q
          · exact q
          · exfalso
            obtain ⟨T, hT⟩ := hsu
            rw [← List.append_assoc] at hT
            have := List.append_cancel_right hT
            have hv : v ∈ V := by rw [← this]; simp
            have h0 := (hok v hv).1.1
            have : v = tE e := by simpa using q
            rw [this] at h0
            exact h0 rfl
        have h0 := (hok v hm).1.1
        have h2' : (bytes v.t == []) = true := h2
        exact h0 (by simpa using h2')
    subst this
    exact ⟨he, V, e, f, xs, hV, hok, h1, h3, hz⟩
  · rw [if_neg he] at h; cases h
theorem pAns_tk {k : Nat} {s : ByteArray} (h : (scR s).2.2 = 0) : pAns k s = pTk k (scR s).1 := by unfold pAns; rw [if_pos h]
end Go.Proofs.YtdibcllakkjegaaGreatDoor

set_option linter.unusedSimpArgs false
set_option linter.unusedVariables false
namespace Go.Proofs.YtdibcllakkjegaaGreatDoor
open Go Go.Proofs Go.RowKit Go.Sort
abbrev EntOk (x : Syn) (w : World) : Ending → World → Prop := fun e w' => ∃ k4 a4 t4 n4 o4 l4 c4 q4, x = .mk k4 a4 t4 n4 q4 ∧ e = .returned (.tuple #[.agg #[.int .i64 k4, .int .i64 a4, .string t4, .int .i64 n4, .slice o4 l4 c4], .int .i64 0, .int .i64 0]) ∧ Below w.heap.size w w' ∧
  synAt w.heap.size w' x (.agg #[.int .i64 k4, .int .i64 a4, .string t4, .int .i64 n4, .slice o4 l4 c4])
abbrev EntBad (a : Int) (c : Nat) (w : World) : Ending → World → Prop := fun e w' => e = .returned (.tuple #[.agg #[.int .i64 0, .int .i64 0, .string ⟨#[]⟩, .int .i64 0, .slice none 0 0], .int .i64 a, .int .i64 (c : Nat)]) ∧ Below w.heap.size w w'
theorem ent_ok {k : Nat} {s : ByteArray} {x : Syn} {w : World} {f : Nat} {args : Array Value} (hp : pAns k s = .ok x) (h : Calls Tryz.prog f args w (Ans k s w)) : Calls Tryz.prog f args w (EntOk x w) := by
  refine h.mono ?_
  rintro e w' ⟨k4, a4, t4, n4, o4, l4, c4, a, c, rfl, hb, hx⟩
  rcases hx with ⟨y, h1, rfl, rfl, h2⟩ | ⟨h1, -, -⟩
  · rw [hp] at h1
    cases h1
    obtain ⟨k, a, t, n, o, l, c, q, hq, hv, -⟩ := h2.shape
    simp only [Value.agg.injEq, Array.mk.injEq, List.cons.injEq, Value.int.injEq, Value.string.injEq, Value.slice.injEq, and_true, true_and] at hv
    obtain ⟨rfl, rfl, rfl, rfl, -⟩ := hv
    exact ⟨_, _, _, _, _, _, _, q, hq, rfl, hb, h2⟩
  · rw [hp] at h1; cases h1
theorem ent_code {k : Nat} {s : ByteArray} {a : Int} {c : Nat} (hp : pAns k s = .error (a, c)) {w : World} {f : Nat} {args : Array Value} (h : Calls Tryz.prog f args w (Ans k s w)) : Calls Tryz.prog f args w fun e w' => c ≠ 0 ∧ EntBad a c w e w' := by
  refine h.mono ?_
  rintro e w' ⟨k4, a4, t4, n4, o4, l4, c4, a, c, rfl, hb, hx⟩
  rcases hx with ⟨y, h1, -⟩ | ⟨h1, h2, hv⟩
  · rw [hp] at h1; cases h1
  · rw [hp] at h1
    cases h1
    rw [hv]
    exact ⟨h2, rfl, hb⟩
theorem synAt.below {lo : Nat} {W W' : World} {x : Syn} {v : Value} (h : synAt lo W x v) (hb : Below W.heap.size W W') : synAt lo W' x v := synAt.keep (From.of_below hb) (Nat.le_refl _) _ _ h
structure Env (w : World) : Prop where
  tab : Lib.TabBelow Tryz.prog w.heap.size w "surveyor/lexer.classes" .u8 clsTab
  ev : EvAt w
theorem Env.at {w W : World} (h : Env w) (hB : Below w.heap.size w W) : Env W := ⟨fun X hX => h.tab X (Below.chain hB hX), h.ev.below hB⟩
theorem Env.awake {w W : World} (h : Env w) (hB : Below w.heap.size w W) : Calls Tryz.prog 12 #[] W fun e w' => e = .returned (.bool true) ∧ Below W.heap.size W w' := awake09 W (h.at hB).tab (h.at hB).ev
theorem Env.parse {w W : World} (h : Env w) (hB : Below w.heap.size w W) (s : ByteArray) : Calls Tryz.prog 13 #[.string s] W (Ans 0 s W) := pParse s W (h.at hB).tab (h.at hB).ev
theorem Env.proc {w W : World} (h : Env w) (hB : Below w.heap.size w W) (s : ByteArray) : Calls Tryz.prog 27 #[.string s] W (Ans 1 s W) := pProc s W (h.at hB).tab (h.at hB).ev
theorem Env.cond {w W : World} (h : Env w) (hB : Below w.heap.size w W) (s : ByteArray) : Calls Tryz.prog 19 #[.string s] W (Ans 2 s W) := pCond s W (h.at hB).tab (h.at hB).ev
theorem Env.part {w W : World} (h : Env w) (hB : Below w.heap.size w W) (s : ByteArray) (n : Nat) (hn : n < 256) : Calls Tryz.prog 16 #[.string s, .int .u8 (n : Int)] W (Ans (n % 4) s W) := part_any s n hn W (h.at hB).tab (h.at hB).ev
theorem eq_of_bare {x y : Syn} (h : bareS x = bareS y) : eqS false x y = true := (eqS_bare x y).2 h
theorem err_ne {c : Nat} (h : c ≠ 0) : ((c : Int) != 0) = true ∧ ((c : Int) == 0) = false := ⟨by rw [bne_iff_ne]; omega, by rw [beq_eq_false_iff_ne]; omega⟩
theorem pAns_cases (k : Nat) (s : ByteArray) : (∃ x, pAns k s = .ok x) ∨ ∃ a c, pAns k s = .error (a, c) := by
  cases h : pAns k s with
  | ok x => exact .inl ⟨x, rfl⟩
  | error p => exact .inr ⟨p.1, p.2, rfl⟩
end Go.Proofs.YtdibcllakkjegaaGreatDoor
