import Derived.Test.YtdibcllakkjegaaGreatDoorCut14

set_option linter.unusedVariables false
/-
  parser: what constructs read, composed: loads, calls, right sides, stores.
-/
set_option linter.unusedSimpArgs false
set_option linter.unusedVariables false
namespace Go.Proofs.YtdibcllakkjegaaGreatDoor
open Go Go.Proofs Go.RowKit
def mLoad (d : Nat) : Rd (List Syn) := mBind mName fun t => mBind (mNeed [91]) fun _ => mBind (mRead (.lvl 4) d) fun p => mBind (mNeed [93]) fun _ => mRet [.mk 16 t.a t.t 0 p]
def mCall (d : Nat) : Rd (List Syn) := mBind mName fun t => mBind (mNeed [40]) fun _ => mBind (mBefore [41] (.lvl 4) d) fun p => mBind (mNeed [41]) fun _ => mRet [.mk 17 t.a t.t 0 p]
def mBlock (d : Nat) : Rd (List Syn) := mBind (mEnter [123] d) fun t => mBind (mRead .stmts (d + 1)) fun p => mBind (mNeed [125]) fun _ => mRet [.mk 6 t.a ⟨#[]⟩ 0 p]
theorem eq_load {d : Nat} (f : Nat) (l : List Tk) : pRead (f + 1) .load d l = mLoad d f l := by
  rw [pRead]
  simp only [mLoad, mBind, mRet, mName, mNeed, mRead, mPeek, mTake, mEnter, mIs, mNamed, mNext, mBefore, pNeed, ite_ebind, ok_ebind, error_ebind, pure, Except.pure]
  repeat' (first | rfl | (split <;> try (simp only [*, ite_ebind, ok_ebind, error_ebind, if_true, if_false, Bool.false_eq_true])) | (refine ebind_congr ?_; rintro ⟨_, _⟩; try simp only [ite_ebind, ok_ebind, error_ebind]))
theorem eq_call {d : Nat} (f : Nat) (l : List Tk) : pRead (f + 1) .call d l = mCall d f l := by
  rw [pRead]
  simp only [mCall, mBind, mRet, mName, mNeed, mRead, mPeek, mTake, mEnter, mIs, mNamed, mNext, mBefore, pNeed, ite_ebind, ok_ebind, error_ebind, pure, Except.pure]
  repeat' (first | rfl | (split <;> try (simp only [*, ite_ebind, ok_ebind, error_ebind, if_true, if_false, Bool.false_eq_true])) | (refine ebind_congr ?_; rintro ⟨_, _⟩; try simp only [ite_ebind, ok_ebind, error_ebind]))
theorem eq_block {d : Nat} (f : Nat) (l : List Tk) : pRead (f + 1) .block d l = mBlock d f l := by
  rw [pRead]
  simp only [mBlock, mBind, mRet, mName, mNeed, mRead, mPeek, mTake, mEnter, mIs, mNamed, mNext, mBefore, pNeed, ite_ebind, ok_ebind, error_ebind, pure, Except.pure]
  repeat' (first | rfl | (split <;> try (simp only [*, ite_ebind, ok_ebind, error_ebind, if_true, if_false, Bool.false_eq_true])) | (refine ebind_congr ?_; rintro ⟨_, _⟩; try simp only [ite_ebind, ok_ebind, error_ebind]))
section
variable {L : List Tk} {st s3 : RSt} {d : Nat} {x : Syn} {xs : List Syn}
theorem st_load (hf : st.fine) (s1 s2 : RSt) (h1 : s1 = needS (isN (cur L st)) st) (h2 : s2 = needS (tIs L s1 ⟨#[91]⟩) s1) (hx : Stp (.lvl 4) d s2 [x] s3) :
    Stp .load d st [.mk 16 (tokM L st (isN (cur L st))).a (tokM L st (isN (cur L st))).t 0 [x]] (needS (tIs L s3 ⟨#[93]⟩) s3) := by
  subst h1 h2
  have f1 : (needS (isN (cur L st)) st).fine := needS_fine hf
  have f2 := needS_fine (can := tIs L (needS (isN (cur L st)) st) ⟨#[91]⟩) f1
  have f3 := Run.fine hx f2
  refine Run.want (m := mLoad d) ?_ eq_load
  exact Run.bind (run_name (L := L) hf) (Run.bind (run_need f1 [91]) (Run.bind hx (Run.bind (run_need f3 [93]) (run_ret (needS_fine f3)))))
theorem st_call (hf : st.fine) (s1 s2 : RSt) (h1 : s1 = needS (isN (cur L st)) st) (h2 : s2 = needS (tIs L s1 ⟨#[40]⟩) s1) (hx : LBef L ⟨#[41]⟩ (.lvl 4) d s2 xs s3) :
    Stp .call d st [.mk 17 (tokM L st (isN (cur L st))).a (tokM L st (isN (cur L st))).t 0 xs] (needS (tIs L s3 ⟨#[41]⟩) s3) := by
  subst h1 h2
  have f1 : (needS (isN (cur L st)) st).fine := needS_fine hf
  have f2 := needS_fine (can := tIs L (needS (isN (cur L st)) st) ⟨#[40]⟩) f1
  have hr := run_before (s := [41]) f2 hx
  have f3 := Run.fine hr f2
  refine Run.want (m := mCall d) ?_ eq_call
  exact Run.bind (run_name (L := L) hf) (Run.bind (run_need f1 [40]) (Run.bind hr (Run.bind (run_need f3 [41]) (run_ret (needS_fine f3)))))
theorem st_block (hf : st.fine) (s2 : RSt) (hx : Stp .stmts (d + 1) (enterS L st d (tIs L st ⟨#[123]⟩)) xs s2) :
    Stp .block d st [.mk 6 (tokM L st (tIs L st ⟨#[123]⟩)).a ⟨#[]⟩ 0 xs] (needS (tIs L s2 ⟨#[125]⟩) s2) := by
  have f1 := Run.fine (run_enter (L := L) (d := d) hf [123]) hf
  have f2 := Run.fine hx f1
  refine Run.want (m := mBlock d) ?_ eq_block
  exact Run.bind (run_enter (L := L) hf [123]) (Run.bind hx (Run.bind (run_need f2 [125]) (run_ret (needS_fine f2))))
end
theorem ite_rd {α : Type} {c : Prop} [Decidable c] {m k : Rd α} {f : Nat} {l : List Tk} : (if c then m else k) f l = if c then m f l else k f l := by split <;> rfl
section
variable {L : List Tk} {st s1 s2 s3 st' : RSt} {d : Nat} {x y z : Syn} {xs ys : List Syn}
def mRight (d : Nat) : Rd (List Syn) := mBind (mIs wInput) fun b => if b = true then mBind mTake fun t => mRet [.mk 15 t.a ⟨#[]⟩ 0 []] else mBind mNamed fun n => mBind mNext fun x => if n = true ∧ x = [91] then mRead .load d else if n = true ∧ x = [40] then mRead .call d else mRead (.lvl 4) d
theorem eq_right (f : Nat) (l : List Tk) : pRead (f + 1) .right d l = mRight d f l := by
  rw [pRead]
  simp only [mRight, mBind, mRet, mName, mNeed, mRead, mPeek, mTake, mEnter, mIs, mNamed, mNext, mBefore, mNum, pNeed, ite_ebind, ok_ebind, error_ebind, ebind_assoc, pure, Except.pure, ite_rd]
  repeat' (first | rfl | contradiction | (split <;> try (simp only [*, ite_ebind, ok_ebind, error_ebind, if_true, if_false, Bool.false_eq_true])))
theorem st_right {xs : List Syn} (h : Run (mRight d) st xs st') : Stp .right d st xs st' := Run.want h eq_right
def mStore (d : Nat) : Rd (List Syn) := mBind mPeek fun p => mBind (mRead .load d) fun x => mBind (mNeed [58, 61]) fun _ => mBind (mRead (.lvl 4) d) fun y => mBind (mNeed [59]) fun _ => mRet [.mk 10 p.a p.t 0 ((x.flatMap fun | .mk _ _ _ _ ks => ks) ++ y)]
def mCallSt (d : Nat) : Rd (List Syn) := mBind mPeek fun p => mBind (mRead .call d) fun x => mBind (mNeed [59]) fun _ => mRet [.mk 9 p.a ⟨#[]⟩ 0 (.mk 3 p.a ⟨#[]⟩ 0 [] :: x)]
def mAssign (d : Nat) : Rd (List Syn) := mBind mPeek fun p => mBind (mRead (.list .place) d) fun x => mBind (mNeed [58, 61]) fun _ => mBind (mRead .right d) fun y => mBind (mNeed [59]) fun _ => mRet [.mk 9 p.a ⟨#[]⟩ 0 (.mk 3 p.a ⟨#[]⟩ 0 x :: y)]
def mChoice (d : Nat) : Rd (List Syn) := mBind mTake fun t => mRead (.chain t.a) d
def mLoop (d : Nat) : Rd (List Syn) := mBind mTake fun t => mBind (mRead (.lvl 0) d) fun c => mBind (mRead .block d) fun b => mRet [.mk 12 t.a ⟨#[]⟩ 0 (c ++ b)]
def mClaim (k : Int) (d : Nat) : Rd (List Syn) := mBind mTake fun t => mBind (mRead (.lvl 0) d) fun c => mBind (mNeed [59]) fun _ => mRet [.mk k t.a ⟨#[]⟩ 0 c]
def mStmt (d : Nat) : Rd (List Syn) := mBind mNamed fun n => if n = true then (mBind mNext fun x => if x = [91] then mStore d else if x = [40] then mCallSt d else mAssign d) else
  mBind (mIs wIf) fun b => if b = true then mChoice d else mBind (mIs wWhile) fun b => if b = true then mLoop d else mBind (mIs wAssert) fun b => if b = true then mClaim 13 d else mClaim 14 d
theorem eq_stmt (f : Nat) (l : List Tk) : pRead (f + 1) .stmt d l = mStmt d f l := by
  rw [pRead]
  simp only [mStmt, mStore, mCallSt, mAssign, mChoice, mLoop, mClaim, mBind, mRet, mName, mNeed, mRead, mPeek, mTake, mEnter, mIs, mNamed, mNext, mBefore, mNum, pNeed, ite_ebind, ok_ebind, error_ebind, ebind_assoc, pure, Except.pure, ite_rd]
  repeat' (first | rfl | contradiction | (split <;> try (simp only [*, ite_ebind, ok_ebind, error_ebind, if_true, if_false, Bool.false_eq_true])) | (refine ebind_congr ?_; rintro ⟨_, _⟩; try simp only [ite_ebind, ok_ebind, error_ebind, ebind_assoc]))
theorem st_stmt {xs : List Syn} (h : Run (mStmt d) st xs st') : Stp .stmt d st xs st' := Run.want h eq_stmt
def mChain (a : Int) (d : Nat) : Rd (List Syn) := mBind (mRead (.lvl 0) d) fun c => mBind (mRead .block d) fun b => mBind (mIs wElse) fun e => if e = true then (mBind mTake fun _ => mBind (mIs wIf) fun i => if i = true then (mBind (mEnter wIf d) fun t => mBind (mRead (.chain t.a) (d + 1)) fun x => mRet [.mk 11 a ⟨#[]⟩ 0 (c ++ b ++ x)]) else (mBind (mRead .block d) fun x => mRet [.mk 11 a ⟨#[]⟩ 0 (c ++ b ++ x)])) else mRet [.mk 11 a ⟨#[]⟩ 0 (c ++ b)]
theorem eq_chain {a : Int} (f : Nat) (l : List Tk) : pRead (f + 1) (.chain a) d l = mChain a d f l := by
  rw [pRead]
  simp only [mChain, mBind, mRet, mName, mNeed, mRead, mPeek, mTake, mEnter, mIs, mNamed, mNext, mBefore, mNum, pNeed, ite_ebind, ok_ebind, error_ebind, ebind_assoc, pure, Except.pure, ite_rd]
  repeat' (first | rfl | contradiction | (split <;> try (simp only [*, ite_ebind, ok_ebind, error_ebind, if_true, if_false, Bool.false_eq_true])) | (refine ebind_congr ?_; rintro ⟨_, _⟩; try simp only [ite_ebind, ok_ebind, error_ebind, ebind_assoc]))
theorem st_chain {a : Int} {xs : List Syn} (h : Run (mChain a d) st xs st') : Stp (.chain a) d st xs st' := Run.want h eq_chain
def mBody (d : Nat) : Rd (List Syn) := mBind (mEnter [123] d) fun t => mBind (mRead .decls (d + 1)) fun x => mBind (mRead .stmts (d + 1)) fun y => mBind (mNeed [125]) fun _ => mRet [.mk 6 t.a ⟨#[]⟩ 0 (x ++ y)]
theorem eq_body (f : Nat) (l : List Tk) : pRead (f + 1) .body d l = mBody d f l := by
  rw [pRead]
  simp only [mBody, mBind, mRet, mName, mNeed, mRead, mPeek, mTake, mEnter, mIs, mNamed, mNext, mBefore, mNum, pNeed, ite_ebind, ok_ebind, error_ebind, ebind_assoc, pure, Except.pure, ite_rd]
  repeat' (first | rfl | contradiction | (split <;> try (simp only [*, ite_ebind, ok_ebind, error_ebind, if_true, if_false, Bool.false_eq_true])) | (refine ebind_congr ?_; rintro ⟨_, _⟩; try simp only [ite_ebind, ok_ebind, error_ebind, ebind_assoc]))
theorem st_body {xs : List Syn} (h : Run (mBody d) st xs st') : Stp .body d st xs st' := Run.want h eq_body
def mRecord (d : Nat) : Rd (List Syn) := mBind (mNeed wRecord) fun p => mBind mName fun t => mBind (mNeed [123]) fun _ => mBind (mRead (.list .bare) d) fun x => mBind (mNeed [125]) fun _ => mRet [.mk 1 p.a t.t 0 x]
theorem eq_record (f : Nat) (l : List Tk) : pRead (f + 1) .record d l = mRecord d f l := by
  rw [pRead]
  simp only [mRecord, mBind, mRet, mName, mNeed, mRead, mPeek, mTake, mEnter, mIs, mNamed, mNext, mBefore, mNum, pNeed, ite_ebind, ok_ebind, error_ebind, ebind_assoc, pure, Except.pure, ite_rd]
  repeat' (first | rfl | contradiction | (split <;> try (simp only [*, ite_ebind, ok_ebind, error_ebind, if_true, if_false, Bool.false_eq_true])) | (refine ebind_congr ?_; rintro ⟨_, _⟩; try simp only [ite_ebind, ok_ebind, error_ebind, ebind_assoc]))
theorem st_record {xs : List Syn} (h : Run (mRecord d) st xs st') : Stp .record d st xs st' := Run.want h eq_record
def mParams (d : Nat) : Rd Syn := mBind (mNeed [40]) fun o => mBind (mBefore [41] .param d) fun ps => mBind (mNeed [41]) fun _ => mRet (.mk 3 o.a ⟨#[]⟩ 0 ps)
def mResults (d : Nat) : Rd Syn := mBind (mIs wReturns) fun b => if b = true then (mBind mTake fun _ => mBind (mNeed [40]) fun o => mBind (mRead (.list .param) d) fun x => mBind (mNeed [41]) fun _ => mRet (.mk 3 o.a ⟨#[]⟩ 0 x)) else mBind mPeek fun p => mRet (.mk 3 p.a ⟨#[]⟩ 0 [])
def mWhen (s : List UInt8) (d : Nat) : Rd Syn := mBind mPeek fun p => mBind (mIs s) fun b => if b = true then (mBind mTake fun _ => mBind (mRead (.lvl 0) d) fun x => mRet (.mk 5 p.a ⟨#[]⟩ 0 x)) else mRet (.mk 5 p.a ⟨#[]⟩ 0 [])
def mProc (d : Nat) : Rd (List Syn) := mBind mPeek fun p => mBind (mIs wImport) fun ext => mBind (if ext = true then mTake else mPeek) fun _ => mBind (mNeed wProc) fun _ => mBind mName fun t =>
  mBind (mParams d) fun k1 => mBind (mResults d) fun k2 => mBind (mWhen wRequires d) fun k3 => mBind (mWhen wEnsures d) fun k4 =>
  if ext = true then (mBind (mNeed [59]) fun _ => mRet [.mk 2 p.a t.t 0 [k1, k2, k3, k4]]) else mBind (mRead .body d) fun b => mRet [.mk 2 p.a t.t 0 ([k1, k2, k3, k4] ++ b)]
theorem eq_proc (f : Nat) (l : List Tk) : pRead (f + 1) .proc d l = mProc d f l := by
  rw [pRead]
  simp only [mProc, mParams, mResults, mWhen, mBind, mRet, mName, mNeed, mRead, mPeek, mTake, mEnter, mIs, mNamed, mNext, mBefore, mNum, pNeed, ite_ebind, ok_ebind, error_ebind, ebind_assoc, pure, Except.pure, ite_rd]
  cases hI : pIs wImport l <;> simp only [if_true, if_false, Bool.false_eq_true, ite_ebind, ok_ebind, error_ebind, ebind_assoc]
  all_goals
    repeat' (first | rfl | contradiction | (split <;> try (simp only [*, ite_ebind, ok_ebind, error_ebind, ebind_assoc, if_true, if_false, Bool.false_eq_true])) | (refine ebind_congr ?_; rintro ⟨_, _⟩; try simp only [ite_ebind, ok_ebind, error_ebind, ebind_assoc]))
theorem st_proc {xs : List Syn} (h : Run (mProc d) st xs st') : Stp .proc d st xs st' := Run.want h eq_proc
def mVars (d : Nat) : Rd Syn := mBind mTake fun t => mBind (mRead (.list .param) d) fun x => mBind (mNeed [59]) fun _ => mRet (.mk 7 t.a ⟨#[]⟩ 0 x)
def mArray : Rd Syn := mBind mTake fun t0 => mBind mName fun t => mBind (mNeed [91]) fun _ => mBind mNum fun n => mBind (mNeed [93]) fun _ => mBind (mNeed [59]) fun _ => mRet (.mk 8 t0.a t.t n [])
def mDecls (d : Nat) : Rd (List Syn) := mBind (mIs wVar) fun b => if b = true then (mBind (mVars d) fun x => mBind (mRead .decls d) fun y => mRet (x :: y)) else mBind (mIs wArray) fun b => if b = true then (mBind mArray fun x => mBind (mRead .decls d) fun y => mRet (x :: y)) else mRet []
theorem eq_decls (f : Nat) (l : List Tk) : pRead (f + 1) .decls d l = mDecls d f l := by
  rw [pRead]
  simp only [mDecls, mVars, mArray, mBind, mRet, mName, mNeed, mRead, mPeek, mTake, mEnter, mIs, mNamed, mNext, mBefore, mNum, pNeed, ite_ebind, ok_ebind, error_ebind, ebind_assoc, pure, Except.pure, ite_rd]
  repeat' (first | rfl | contradiction | (split <;> try (simp only [*, ite_ebind, ok_ebind, error_ebind, ebind_assoc, if_true, if_false, Bool.false_eq_true, ne_eq, not_true_eq_false, not_false_eq_true])) | (refine ebind_congr ?_; rintro ⟨_, _⟩; try simp only [ite_ebind, ok_ebind, error_ebind, ebind_assoc]))
theorem st_decls {xs : List Syn} (h : Run (mDecls d) st xs st') : Stp .decls d st xs st' := Run.want h eq_decls
def mStmts (d : Nat) : Rd (List Syn) := mBind mNamed fun n => mBind (mIs wIf) fun b1 => mBind (mIs wWhile) fun b2 => mBind (mIs wAssert) fun b3 => mBind (mIs wAssume) fun b4 => if n = true ∨ b1 = true ∨ b2 = true ∨ b3 = true ∨ b4 = true then (mBind (mRead .stmt d) fun x => mBind (mRead .stmts d) fun y => mRet (x ++ y)) else mRet []
theorem eq_stmts (f : Nat) (l : List Tk) : pRead (f + 1) .stmts d l = mStmts d f l := by
  rw [pRead]
  simp only [mStmts, mBind, mRet, mName, mNeed, mRead, mPeek, mTake, mEnter, mIs, mNamed, mNext, mBefore, mNum, pNeed, ite_ebind, ok_ebind, error_ebind, ebind_assoc, pure, Except.pure, ite_rd]
  repeat' (first | rfl | contradiction | (split <;> try (simp only [*, ite_ebind, ok_ebind, error_ebind, ebind_assoc, if_true, if_false, Bool.false_eq_true])) | (refine ebind_congr ?_; rintro ⟨_, _⟩; try simp only [ite_ebind, ok_ebind, error_ebind, ebind_assoc]))
theorem st_stmts {xs : List Syn} (h : Run (mStmts d) st xs st') : Stp .stmts d st xs st' := Run.want h eq_stmts
def mProgram (a : Int) (d : Nat) : Rd (List Syn) := mBind (mIs wRecord) fun b => if b = true then (mBind (mRead .record d) fun x => mBind (mRead (.program a) d) fun y => mRet (x ++ y)) else mBind (mIs wProc) fun b1 => mBind (mIs wImport) fun b2 => if b1 = true ∨ b2 = true then (mBind (mRead .proc d) fun x => mBind (mRead (.program a) d) fun y => mRet (x ++ y)) else mRet []
theorem eq_program {a : Int} (f : Nat) (l : List Tk) : pRead (f + 1) (.program a) d l = mProgram a d f l := by
  rw [pRead]
  simp only [mProgram, mBind, mRet, mName, mNeed, mRead, mPeek, mTake, mEnter, mIs, mNamed, mNext, mBefore, mNum, pNeed, ite_ebind, ok_ebind, error_ebind, ebind_assoc, pure, Except.pure, ite_rd]
  repeat' (first | rfl | contradiction | (split <;> try (simp only [*, ite_ebind, ok_ebind, error_ebind, ebind_assoc, if_true, if_false, Bool.false_eq_true])) | (refine ebind_congr ?_; rintro ⟨_, _⟩; try simp only [ite_ebind, ok_ebind, error_ebind, ebind_assoc]))
theorem st_program {a : Int} {xs : List Syn} (h : Run (mProgram a d) st xs st') : Stp (.program a) d st xs st' := Run.want h eq_program
end
end Go.Proofs.YtdibcllakkjegaaGreatDoor

set_option linter.unusedSimpArgs false
set_option linter.unusedVariables false
namespace Go.Proofs.YtdibcllakkjegaaGreatDoor
open Go Go.Proofs Go.RowKit Go.Sort
theorem kidsIn.butt {R lo : Nat} {ps : List Nat} {W W' : World} {xs : List Syn} {v : Value} (h : kidsIn (offs lo ps) W xs v) (hR : R < lo) (hb : Butt R W W') : kidsIn (offs lo ps) W' xs v :=
  kidsIn.keep ⟨hb.size, fun k hk h => hb.block k h (by have := hk.1; omega)⟩ (fun _ h _ => h) h
theorem ownT.kidsIn {lo l2 : Nat} {ps : List Nat} {W : World} {xs : List Syn} {v : Value} (h : ownT lo W xs v) (hl : l2 ≤ lo) (hp : ∀ p ∈ ps, p < lo) : kidsIn (offs l2 ps) W xs v := by
  refine h.kids.imp_right ?_
  rintro ⟨b, c, e1, h1, h2, h3, h4, h5⟩
  have hk : ∀ k, lo ≤ k → k < W.heap.size → offs l2 ps k := fun k hk _ => ⟨Nat.le_trans hl hk, fun hm => absurd (hp k hm) (Nat.not_lt.mpr hk)⟩
  exact ⟨b, c, e1, h1, h2, hk b h3 h4, h4, rowIn.keep ⟨Nat.le_refl _, fun _ _ _ => rfl⟩ hk xs b 0 h3 h4 ((rowIn_at xs b 0).mpr h5)⟩
theorem kidsIn.kept {lo q : Nat} {ps : List Nat} {W W' : World} {xs : List Syn} {v : Value} (h : kidsIn (offs lo ps) W xs v) (hq : q ∈ ps) (hb : Kept (· ≠ q) W W') : kidsIn (offs lo ps) W' xs v :=
  kidsIn.keep ⟨hb.size, fun k hk h => hb.block k (fun e => hk.2 (e ▸ hq)) h⟩ (fun _ h _ => h) h
abbrev PS (R : Nat) (L : List Tk) (Q : Syn → RSt → Prop) (d : Nat) (W : World) : Ending → World → Prop := fun e W' =>
  ∃ x v st', e = .returned v ∧ synAt W.heap.size W' x v ∧ Q x st' ∧ At R L W' d st' ∧ Butt R W W'
abbrev PB (R : Nat) (L : List Tk) (s : ByteArray) (wnt : Want) (d : Nat) (st : RSt) (W : World) : Ending → World → Prop := fun e W' =>
  ∃ xs v st', e = .returned v ∧ ownT W.heap.size W' xs v ∧ xs.length ≤ st.rem + 1 ∧ LBef L s wnt d st xs st' ∧ At R L W' d st' ∧ Butt R W W'
theorem needS_rem {can : Bool} {st : RSt} : (needS can st).rem ≤ st.rem := by
  cases st with
  | bad a e => exact Nat.le_refl _
  | ok l =>
    cases can with
    | true => exact pTl_len l
    | false => exact Nat.zero_le _
set_option maxRecDepth 20000 in
set_option maxHeartbeats 1000000 in
theorem pbefore_parameter {R : Nat} {L : List Tk} {d : Nat} {st : RSt} {w : World} (h : At R L w d st) (K : ∀ s : RSt, s.rem ≤ st.rem → GT 113 R L #[.pointer (some ⟨R, 0, none⟩)] .param d s) :
    Calls Tryz.prog 112 #[.pointer (some ⟨R, 0, none⟩), .string ⟨#[41]⟩, .func (.func 113) #[.pointer (some ⟨R, 0, none⟩)] #[]] w (PB R L ⟨#[41]⟩ .param d st w) := by
  have CI := fun W (H : At R L W d st) => sis H ⟨#[41]⟩
  have CL := fun W (H : At R L W d st) => plist_parameter H K
  cases hb : tIs L st ⟨#[41]⟩ with
  | true =>
    rw [hb] at CI
    have KI := Lib.hid CI; have KL := Lib.hid CL; have HBB := Lib.hid hb
    have HA0 := Lib.hid h
    have HLT := Lib.hid h.fix.lt; have HRW := Lib.hid h.fix.lt
    have A0 := Lib.hid h; have B0 := Lib.hid (Butt.refl R w)
    clear h CI CL K hb
    go_enter Tryz.func112, Tryz.ntmps112
    go_wp2_with (go_at_call 57; refine (KI.out _ A0.out).mono ?_; rintro e w1 ⟨rfl, ha1, hb1⟩; refine Hid.out ?_)
    have A1 := Lib.hid ha1; have B1 := Lib.hid (B0.out.trans hb1)
    clear ha1 hb1
    refine Lib.hid ?_
    go_wp2
    go_ret
    exact ⟨[], _, _, rfl, ownT.nil _ _, Nat.zero_le _, .inl ⟨HBB.out, rfl, rfl⟩, A1.out, B1.out⟩
  | false =>
    rw [hb] at CI
    have KI := Lib.hid CI; have KL := Lib.hid CL; have HBB := Lib.hid hb
    have HA0 := Lib.hid h
    have HLT := Lib.hid h.fix.lt; have HRW := Lib.hid h.fix.lt
    have A0 := Lib.hid h; have B0 := Lib.hid (Butt.refl R w)
    clear h CI CL K hb
    go_enter Tryz.func112, Tryz.ntmps112
    go_wp2_with (go_at_call 57; refine (KI.out _ A0.out).mono ?_; rintro e w1 ⟨rfl, ha1, hb1⟩; refine Hid.out ?_)
    have A1 := Lib.hid ha1; have B1 := Lib.hid (B0.out.trans hb1)
    clear ha1 hb1
    refine Lib.hid ?_
    go_wp2_with (go_at_call 96; refine (KL.out _ A1.out).mono ?_; rintro e w2 ⟨x2, v2, s2, rfl, hx2, hn2, hs2, ha2, hb2⟩; refine Hid.out ?_)
    obtain ⟨o2, c2, rfl⟩ := hx2.slice
    have RW2 := Lib.hid (ownT.kidsIn (ps := []) hx2 (Nat.le_trans (Nat.le_refl _) B1.out.size) (by simp))
    have OX2 := Lib.hid hx2
    have HS2 := Lib.hid hs2; have HN2 := Lib.hid hn2
    have A2 := Lib.hid ha2; have B2 := Lib.hid (B1.out.trans hb2)
    clear ha2 hb2 hx2 hs2 hn2
    refine Lib.hid ?_
    go_wp2
    go_ret
    exact ⟨_, _, _, rfl, OX2.out.keep B1.out.size (From.refl _ _), HN2.out, .inr ⟨HBB.out, HS2.out⟩, A2.out, B2.out⟩
set_option maxRecDepth 20000 in
set_option maxHeartbeats 1000000 in
theorem pbefore_expression {R : Nat} {L : List Tk} {d : Nat} {st : RSt} {w : World} (h : At R L w d st) (K : ∀ s : RSt, s.rem ≤ st.rem → GT 46 R L #[.pointer (some ⟨R, 0, none⟩)] (.lvl 4) d s) :
    Calls Tryz.prog 112 #[.pointer (some ⟨R, 0, none⟩), .string ⟨#[41]⟩, .func (.func 46) #[.pointer (some ⟨R, 0, none⟩)] #[]] w (PB R L ⟨#[41]⟩ (.lvl 4) d st w) := by
  have CI := fun W (H : At R L W d st) => sis H ⟨#[41]⟩
  have CL := fun W (H : At R L W d st) => plist_expression H K
  cases hb : tIs L st ⟨#[41]⟩ with
  | true =>
    rw [hb] at CI
    have KI := Lib.hid CI; have KL := Lib.hid CL; have HBB := Lib.hid hb
    have HA0 := Lib.hid h
    have HLT := Lib.hid h.fix.lt; have HRW := Lib.hid h.fix.lt
    have A0 := Lib.hid h; have B0 := Lib.hid (Butt.refl R w)
    clear h CI CL K hb
    go_enter Tryz.func112, Tryz.ntmps112
    go_wp2_with (go_at_call 57; refine (KI.out _ A0.out).mono ?_; rintro e w1 ⟨rfl, ha1, hb1⟩; refine Hid.out ?_)
    have A1 := Lib.hid ha1; have B1 := Lib.hid (B0.out.trans hb1)
    clear ha1 hb1
    refine Lib.hid ?_
    go_wp2
    go_ret
    exact ⟨[], _, _, rfl, ownT.nil _ _, Nat.zero_le _, .inl ⟨HBB.out, rfl, rfl⟩, A1.out, B1.out⟩
  | false =>
    rw [hb] at CI
    have KI := Lib.hid CI; have KL := Lib.hid CL; have HBB := Lib.hid hb
    have HA0 := Lib.hid h
    have HLT := Lib.hid h.fix.lt; have HRW := Lib.hid h.fix.lt
    have A0 := Lib.hid h; have B0 := Lib.hid (Butt.refl R w)
    clear h CI CL K hb
    go_enter Tryz.func112, Tryz.ntmps112
    go_wp2_with (go_at_call 57; refine (KI.out _ A0.out).mono ?_; rintro e w1 ⟨rfl, ha1, hb1⟩; refine Hid.out ?_)
    have A1 := Lib.hid ha1; have B1 := Lib.hid (B0.out.trans hb1)
    clear ha1 hb1
    refine Lib.hid ?_
    go_wp2_with (go_at_call 96; refine (KL.out _ A1.out).mono ?_; rintro e w2 ⟨x2, v2, s2, rfl, hx2, hn2, hs2, ha2, hb2⟩; refine Hid.out ?_)
    obtain ⟨o2, c2, rfl⟩ := hx2.slice
    have RW2 := Lib.hid (ownT.kidsIn (ps := []) hx2 (Nat.le_trans (Nat.le_refl _) B1.out.size) (by simp))
    have OX2 := Lib.hid hx2
    have HS2 := Lib.hid hs2; have HN2 := Lib.hid hn2
    have A2 := Lib.hid ha2; have B2 := Lib.hid (B1.out.trans hb2)
    clear ha2 hb2 hx2 hs2 hn2
    refine Lib.hid ?_
    go_wp2
    go_ret
    exact ⟨_, _, _, rfl, OX2.out.keep B1.out.size (From.refl _ _), HN2.out, .inr ⟨HBB.out, HS2.out⟩, A2.out, B2.out⟩
set_option maxRecDepth 20000 in
set_option maxHeartbeats 1000000 in
theorem pload {R : Nat} {L : List Tk} {d : Nat} {st : RSt} {w : World} (h : At R L w d st) (K : ∀ s : RSt, s.rem ≤ st.rem → GT 46 R L #[.pointer (some ⟨R, 0, none⟩)] (.lvl 4) d s) :
    Calls Tryz.prog 164 #[.pointer (some ⟨R, 0, none⟩)] w (PS R L (fun x st' => ∃ a t i, x = .mk 16 a t 0 [i] ∧ Stp .load d st [x] st') d w) := by
  have hfi := h.fine
  have CN := fun W (H : At R L W d st) => sname H
  have HM := Lib.hid (fun x s' => st_load (L := L) (d := d) (x := x) (s3 := s') hfi _ _ rfl rfl)
  have hr : (needS (tIs L (needS (isN (cur L st)) st) ⟨#[91]⟩) (needS (isN (cur L st)) st)).rem ≤ st.rem := Nat.le_trans needS_rem needS_rem
  generalize needS (isN (cur L st)) st = s1 at *
  generalize tokM L st (isN (cur L st)) = T at *
  obtain ⟨ek, et, ea⟩ := T
  unfold tkA at *
  dsimp only at *
  have KN := Lib.hid CN; have KL := Lib.hid K; have HR := Lib.hid hr
  have HA0 := Lib.hid h
  have HLT := Lib.hid h.fix.lt; have HRW := Lib.hid h.fix.lt
  have hA := h.alloc (Obj.cells #[.int .i64 0, .int .i64 0, .string ⟨#[]⟩, .int .i64 0, .slice none 0 0] 25)
  have hB := (Butt.refl R w).alloc h.fix.lt (Obj.cells #[.int .i64 0, .int .i64 0, .string ⟨#[]⟩, .int .i64 0, .slice none 0 0] 25)
  have hX := Bx5.new w (.int .i64 0) (.int .i64 0) (.string ⟨#[]⟩) (.int .i64 0) (.slice none 0 0)
  have hpR : w.heap.size ≠ R := fun e => absurd h.fix.lt (by rw [e]; exact Nat.lt_irrefl _)
  have hls : w.heap.size < (w.alloc (Obj.cells #[.int .i64 0, .int .i64 0, .string ⟨#[]⟩, .int .i64 0, .slice none 0 0] 25)).heap.size := by simp
  have A0 := Lib.hid hA; have B0 := Lib.hid hB; have XR0 := Lib.hid hX; have HPR := Lib.hid hpR; have HLS := Lib.hid hls
  clear hA hB hX hpR hls h CN K hr hfi
  go_enter Tryz.func164, Tryz.ntmps164
  go_wp2_with (go_at_call 85; refine (KN.out _ A0.out).mono ?_; rintro e w1 ⟨rfl, ha1, hb1⟩; refine Hid.out ?_)
  have A1 := Lib.hid ha1; have B1 := Lib.hid (B0.out.trans hb1)
  have XR1 := Lib.hid (XR0.out.butt HPR.out hb1)
  clear ha1 hb1
  refine Lib.hid ?_
  have A1a := Lib.hid (A1.out.alloc (Obj.cells #[.int .i64 ek, .string et, .int .i64 ea] 47)); have B1a := Lib.hid (B1.out.alloc HRW.out (Obj.cells #[.int .i64 ek, .string et, .int .i64 ea] 47))
  have XR1a := Lib.hid (XR1.out.alloc (Obj.cells #[.int .i64 ek, .string et, .int .i64 ea] 47))
  have PTT : Hid (w1.heap.size ≠ R) := Lib.hid (fun e => absurd (A1.out.fix.lt) (by rw [e]; exact Nat.lt_irrefl _))
  have TT1a := Lib.hid (Bx3.new w1 (.int .i64 ek) (.string et) (.int .i64 ea))
  go_wp2_with (go_at_call 55; refine (sexpect A1a.out ⟨#[91]⟩).mono ?_; rintro e w2 ⟨rfl, ha2, hb2⟩; refine Hid.out ?_)
  have A2 := Lib.hid ha2; have B2 := Lib.hid (B1a.out.trans hb2)
  have XR2 := Lib.hid (XR1a.out.butt HPR.out hb2)
  have TT2 := Lib.hid (TT1a.out.butt PTT.out hb2)
  clear ha2 hb2
  refine Lib.hid ?_
  go_wp2_with (go_at_call 46; refine (KL.out _ HR.out _ A2.out).mono ?_; rintro e w3 ⟨x3, v3, s3, rfl, hx3, hs3, ha3, hb3⟩; refine Hid.out ?_)
  obtain ⟨k3, a3, t3, n3, o3, l3, c3, q3, rfl, rfl, hk3⟩ := hx3.shape
  have HS3 := Lib.hid hs3
  have TR3 := Lib.hid (synIn.of (ps := [w.heap.size]) hx3 (Nat.le_trans (Nat.le_refl _) B2.out.size) (fun p hp => by simp only [List.mem_cons, List.not_mem_nil, or_false] at hp; have g0 := XR2.out.lt; omega))
  have A3 := Lib.hid ha3; have B3 := Lib.hid (B2.out.trans hb3)
  have XR3 := Lib.hid (XR2.out.butt HPR.out hb3)
  have TT3 := Lib.hid (TT2.out.butt PTT.out hb3)
  clear ha3 hb3 hx3 hk3 hs3
  refine Lib.hid ?_
  have A3a1 := Lib.hid (A3.out.alloc (Obj.cells #[.int .i64 k3, .int .i64 a3, .string t3, .int .i64 n3, .slice o3 l3 c3] 25)); have B3a1 := Lib.hid (B3.out.alloc HRW.out (Obj.cells #[.int .i64 k3, .int .i64 a3, .string t3, .int .i64 n3, .slice o3 l3 c3] 25))
  have XR3a1 := Lib.hid (XR3.out.alloc (Obj.cells #[.int .i64 k3, .int .i64 a3, .string t3, .int .i64 n3, .slice o3 l3 c3] 25))
  have TT3a1 := Lib.hid (TT3.out.alloc (Obj.cells #[.int .i64 k3, .int .i64 a3, .string t3, .int .i64 n3, .slice o3 l3 c3] 25))
  have TR33a1 := Lib.hid (TR3.out.butt HLT.out (Butt.of_below A3.out.fix.lt ((Below.refl _ _).alloc (Nat.le_refl _) (Obj.cells #[.int .i64 k3, .int .i64 a3, .string t3, .int .i64 n3, .slice o3 l3 c3] 25))))
  have PXX : Hid (w3.heap.size ≠ R) := Lib.hid (fun e => absurd (A3.out.fix.lt) (by rw [e]; exact Nat.lt_irrefl _))
  have XX3a1 := Lib.hid (Bx5.new w3 (.int .i64 k3) (.int .i64 a3) (.string t3) (.int .i64 n3) (.slice o3 l3 c3))
  go_wp2_with (go_at_call 55; refine (sexpect A3a1.out ⟨#[93]⟩).mono ?_; rintro e w4 ⟨rfl, ha4, hb4⟩; refine Hid.out ?_)
  have A4 := Lib.hid ha4; have B4 := Lib.hid (B3a1.out.trans hb4)
  have XR4 := Lib.hid (XR3a1.out.butt HPR.out hb4)
  have TT4 := Lib.hid (TT3a1.out.butt PTT.out hb4)
  have XX4 := Lib.hid (XX3a1.out.butt PXX.out hb4)
  have TR34 := Lib.hid (TR33a1.out.butt HLT.out hb4)
  clear ha4 hb4
  refine Lib.hid ?_
  have zTT := TT4.out
  have yTT0 := zTT.c0
  have yTT1 := zTT.c1
  have yTT2 := zTT.c2
  clear zTT
  have zXX := XX4.out
  have yXX0 := zXX.c0
  have yXX1 := zXX.c1
  have yXX2 := zXX.c2
  have yXX3 := zXX.c3
  have yXX4 := zXX.c4
  clear zXX
  have hAw : offs w.heap.size [w.heap.size] w4.heap.size := ⟨Nat.le_trans (Nat.le_refl _) B4.out.size, fun hp => by simp only [List.mem_cons, List.not_mem_nil, or_false] at hp; have g0 := XR4.out.lt; omega⟩
  have hki := kidsIn_new (flatIn.one (TR34.out)) (by simp) hAw 1 rfl
  have KI := Lib.hid hki
  clear hAw hki
  go_wp2_with (go_at_call 59; refine (pnode_any _ _ _ _ _ _ _).mono ?_; rintro e w5 ⟨rfl, hb5⟩; refine Hid.out ?_)
  have hbx := Butt.of_below (R := R) A4.out.fix.lt (Below.chain ((Below.refl _ _).alloc (Nat.le_refl _) (Obj.cells #[.int .i64 k3, .int .i64 a3, .string t3, .int .i64 n3, .slice o3 l3 c3] 25)) hb5)
  have ha5 : At R L w5 _ _ := ⟨A4.out.fix.butt hbx, A4.out.rs.below (Below.chain ((Below.refl _ _).alloc (Nat.le_refl _) (Obj.cells #[.int .i64 k3, .int .i64 a3, .string t3, .int .i64 n3, .slice o3 l3 c3] 25)) hb5)⟩
  have TN := Lib.hid (synIn_mk.mpr ⟨_, rfl, KI.out.below hb5⟩ : synIn (offs w.heap.size [w.heap.size]) w5 (.mk 16 ea et 0 [(.mk k3 a3 t3 n3 q3)]) _)
  have hb5 := hbx; clear hbx
  have A5 := Lib.hid ha5; have B5 := Lib.hid (B4.out.trans hb5)
  have XR5 := Lib.hid (XR4.out.butt HPR.out hb5)
  have TT5 := Lib.hid (TT4.out.butt PTT.out hb5)
  have XX5 := Lib.hid (XX4.out.butt PXX.out hb5)
  clear ha5 hb5
  refine Lib.hid ?_
  have FT := Lib.hid (store5 HA0.out B5.out A5.out XR5.out (Nat.le_refl _) (.int .i64 16) (.int .i64 ea) (.string et) (.int .i64 0) (.slice (some ⟨w4.heap.size, 0, none⟩) 1 1) _ rfl)
  have GX := Lib.hid ((TN.out).kept (by simp) FT.out.2.2.2).at
  have zXR := XR5.out
  have yXR0 := zXR.c0
  have yXR1 := zXR.c1
  have yXR2 := zXR.c2
  have yXR3 := zXR.c3
  have yXR4 := zXR.c4
  have fXR0 := zXR.free 0
  have fXR1 := zXR.free 1
  have fXR2 := zXR.free 2
  have fXR3 := zXR.free 3
  have fXR4 := zXR.free 4
  clear zXR
  obtain ⟨r0, r1, r2, r3, r4⟩ := FT.out.1
  have GA := Lib.hid FT.out.2.1; have GB := Lib.hid FT.out.2.2.1
  clear FT
  go_wp2
  refine bodyPost_ret (by simp [results, Tryz.results164, go_sem, r0, r1, r2, r3, r4]; rfl) rfl ?_
  exact ⟨_, _, _, rfl, GX.out, ⟨_, _, _, rfl, HM.out _ _ HS3.out⟩, GA.out, GB.out⟩
set_option maxRecDepth 20000 in
set_option maxHeartbeats 1000000 in
theorem pcall {R : Nat} {L : List Tk} {d : Nat} {st : RSt} {w : World} (h : At R L w d st) (K : ∀ s : RSt, s.rem ≤ st.rem → GT 46 R L #[.pointer (some ⟨R, 0, none⟩)] (.lvl 4) d s) :
    Calls Tryz.prog 149 #[.pointer (some ⟨R, 0, none⟩)] w (PT R L .call d st w) := by
  have hfi := h.fine
  have CN := fun W (H : At R L W d st) => sname H
  have HM := Lib.hid (fun x s' => st_call (L := L) (d := d) (xs := x) (s3 := s') hfi _ _ rfl rfl)
  have hr : (needS (tIs L (needS (isN (cur L st)) st) ⟨#[40]⟩) (needS (isN (cur L st)) st)).rem ≤ st.rem := Nat.le_trans needS_rem needS_rem
  generalize needS (isN (cur L st)) st = s1 at *
  generalize tokM L st (isN (cur L st)) = T at *
  obtain ⟨ek, et, ea⟩ := T
  unfold tkA at *
  dsimp only at *
  have KN := Lib.hid CN; have KL := Lib.hid (fun s (hs : s.rem ≤ st.rem) W (H : At R L W d s) => pbefore_expression H (fun s2 h2 => K s2 (Nat.le_trans h2 hs))); have HR := Lib.hid hr
  have HA0 := Lib.hid h
  have HLT := Lib.hid h.fix.lt; have HRW := Lib.hid h.fix.lt
  have hA := h.alloc (Obj.cells #[.int .i64 0, .int .i64 0, .string ⟨#[]⟩, .int .i64 0, .slice none 0 0] 25)
  have hB := (Butt.refl R w).alloc h.fix.lt (Obj.cells #[.int .i64 0, .int .i64 0, .string ⟨#[]⟩, .int .i64 0, .slice none 0 0] 25)
  have hX := Bx5.new w (.int .i64 0) (.int .i64 0) (.string ⟨#[]⟩) (.int .i64 0) (.slice none 0 0)
  have hpR : w.heap.size ≠ R := fun e => absurd h.fix.lt (by rw [e]; exact Nat.lt_irrefl _)
  have hls : w.heap.size < (w.alloc (Obj.cells #[.int .i64 0, .int .i64 0, .string ⟨#[]⟩, .int .i64 0, .slice none 0 0] 25)).heap.size := by simp
  have A0 := Lib.hid hA; have B0 := Lib.hid hB; have XR0 := Lib.hid hX; have HPR := Lib.hid hpR; have HLS := Lib.hid hls
  clear hA hB hX hpR hls h CN K hr hfi
  go_enter Tryz.func149, Tryz.ntmps149
  go_wp2_with (go_at_call 85; refine (KN.out _ A0.out).mono ?_; rintro e w1 ⟨rfl, ha1, hb1⟩; refine Hid.out ?_)
  have A1 := Lib.hid ha1; have B1 := Lib.hid (B0.out.trans hb1)
  have XR1 := Lib.hid (XR0.out.butt HPR.out hb1)
  clear ha1 hb1
  refine Lib.hid ?_
  have A1a := Lib.hid (A1.out.alloc (Obj.cells #[.int .i64 ek, .string et, .int .i64 ea] 47)); have B1a := Lib.hid (B1.out.alloc HRW.out (Obj.cells #[.int .i64 ek, .string et, .int .i64 ea] 47))
  have XR1a := Lib.hid (XR1.out.alloc (Obj.cells #[.int .i64 ek, .string et, .int .i64 ea] 47))
  have PTT : Hid (w1.heap.size ≠ R) := Lib.hid (fun e => absurd (A1.out.fix.lt) (by rw [e]; exact Nat.lt_irrefl _))
  have TT1a := Lib.hid (Bx3.new w1 (.int .i64 ek) (.string et) (.int .i64 ea))
  go_wp2_with (go_at_call 55; refine (sexpect A1a.out ⟨#[40]⟩).mono ?_; rintro e w2 ⟨rfl, ha2, hb2⟩; refine Hid.out ?_)
  have A2 := Lib.hid ha2; have B2 := Lib.hid (B1a.out.trans hb2)
  have XR2 := Lib.hid (XR1a.out.butt HPR.out hb2)
  have TT2 := Lib.hid (TT1a.out.butt PTT.out hb2)
  clear ha2 hb2
  refine Lib.hid ?_
  go_wp2_with (go_at_call 112; refine (KL.out _ HR.out _ A2.out).mono ?_; rintro e w3 ⟨x3, v3, s3, rfl, hx3, hn3, hs3, ha3, hb3⟩; refine Hid.out ?_)
  obtain ⟨o3, c3, rfl⟩ := hx3.slice
  have RW3 := Lib.hid (ownT.kidsIn (ps := [w.heap.size]) hx3 (Nat.le_trans (Nat.le_refl _) B2.out.size) (fun p hp => by simp only [List.mem_cons, List.not_mem_nil, or_false] at hp; have g0 := XR2.out.lt; omega))
  have HS3 := Lib.hid hs3; have HN3 := Lib.hid hn3
  have A3 := Lib.hid ha3; have B3 := Lib.hid (B2.out.trans hb3)
  have XR3 := Lib.hid (XR2.out.butt HPR.out hb3)
  have TT3 := Lib.hid (TT2.out.butt PTT.out hb3)
  clear ha3 hb3 hx3 hs3 hn3
  refine Lib.hid ?_
  go_wp2_with (go_at_call 55; refine (sexpect A3.out ⟨#[41]⟩).mono ?_; rintro e w4 ⟨rfl, ha4, hb4⟩; refine Hid.out ?_)
  have A4 := Lib.hid ha4; have B4 := Lib.hid (B3.out.trans hb4)
  have XR4 := Lib.hid (XR3.out.butt HPR.out hb4)
  have TT4 := Lib.hid (TT3.out.butt PTT.out hb4)
  have RW34 := Lib.hid (RW3.out.butt HLT.out hb4)
  clear ha4 hb4
  refine Lib.hid ?_
  have zTT := TT4.out
  have yTT0 := zTT.c0
  have yTT1 := zTT.c1
  have yTT2 := zTT.c2
  clear zTT
  go_wp2_with (go_at_call 59; refine (pnode_any _ _ _ _ _ _ _).mono ?_; rintro e w5 ⟨rfl, hb5⟩; refine Hid.out ?_)
  have hbx := Butt.of_below (R := R) A4.out.fix.lt hb5
  have ha5 : At R L w5 _ _ := ⟨A4.out.fix.butt hbx, A4.out.rs.below hb5⟩
  have TN := Lib.hid (synIn_mk.mpr ⟨_, rfl, RW34.out.below hb5⟩ : synIn (offs w.heap.size [w.heap.size]) w5 (.mk 17 ea et 0 x3) _)
  have hb5 := hbx; clear hbx
  have A5 := Lib.hid ha5; have B5 := Lib.hid (B4.out.trans hb5)
  have XR5 := Lib.hid (XR4.out.butt HPR.out hb5)
  have TT5 := Lib.hid (TT4.out.butt PTT.out hb5)
  clear ha5 hb5
  refine Lib.hid ?_
  have FT := Lib.hid (store5 HA0.out B5.out A5.out XR5.out (Nat.le_refl _) (.int .i64 17) (.int .i64 ea) (.string et) (.int .i64 0) (.slice o3 x3.length c3) _ rfl)
  have GX := Lib.hid ((TN.out).kept (by simp) FT.out.2.2.2).at
  have zXR := XR5.out
  have yXR0 := zXR.c0
  have yXR1 := zXR.c1
  have yXR2 := zXR.c2
  have yXR3 := zXR.c3
  have yXR4 := zXR.c4
  have fXR0 := zXR.free 0
  have fXR1 := zXR.free 1
  have fXR2 := zXR.free 2
  have fXR3 := zXR.free 3
  have fXR4 := zXR.free 4
  clear zXR
  obtain ⟨r0, r1, r2, r3, r4⟩ := FT.out.1
  have GA := Lib.hid FT.out.2.1; have GB := Lib.hid FT.out.2.2.1
  clear FT
  go_wp2
  refine bodyPost_ret (by simp [results, Tryz.results149, go_sem, r0, r1, r2, r3, r4]; rfl) rfl ?_
  exact ⟨_, _, _, rfl, GX.out, HM.out _ _ HS3.out, GA.out, GB.out⟩
end Go.Proofs.YtdibcllakkjegaaGreatDoor
