import Derived.Test.YtdibcllakkjegaaGreatDoorCut15

set_option linter.unusedVariables false
/-
  parser: right sides and statements: what is read, by cases.
-/
set_option linter.unusedSimpArgs false
set_option linter.unusedVariables false
namespace Go.Proofs.YtdibcllakkjegaaGreatDoor
open Go Go.Proofs Go.RowKit
section
variable {L : List Tk} {st s1 s2 s3 st' : RSt} {d : Nat} {x y z : Syn} {xs ys : List Syn}
theorem right_in (hf : st.fine) (hb : tIs L st ⟨#[105, 110, 112, 117, 116]⟩ = true) : Stp .right d st [.mk 15 (cur L st).a ⟨#[]⟩ 0 []] (takeS st) :=
  st_right (Run.bind (run_is (L := L) hf wInput) (Run.ite (fun _ => Run.bind (run_take hf) (run_ret (RSt.takeS_fine hf))) (fun h => absurd hb h)))
theorem right_load (hf : st.fine) (hb : tIs L st ⟨#[105, 110, 112, 117, 116]⟩ = false) (hn : isN (cur L st) = true) (hx : bytes (nextT L st) = [91]) (hs : Stp .load d st xs st') : Stp .right d st xs st' :=
  st_right (Run.bind (run_is (L := L) hf wInput) (Run.ite (fun h => absurd (hb.symm.trans h) (by decide)) (fun _ => Run.bind (run_named (L := L) hf) (Run.bind (run_next (L := L) hf) (Run.ite (fun _ => hs) (fun h => absurd ⟨hn, hx⟩ h))))))
theorem right_call (hf : st.fine) (hb : tIs L st ⟨#[105, 110, 112, 117, 116]⟩ = false) (hn : isN (cur L st) = true) (hx : bytes (nextT L st) = [40]) (hs : Stp .call d st xs st') : Stp .right d st xs st' :=
  st_right (Run.bind (run_is (L := L) hf wInput) (Run.ite (fun h => absurd (hb.symm.trans h) (by decide)) (fun _ => Run.bind (run_named (L := L) hf) (Run.bind (run_next (L := L) hf) (Run.ite (fun h => absurd (hx.symm.trans h.2) (by decide)) (fun _ => Run.ite (fun _ => hs) (fun h => absurd ⟨hn, hx⟩ h)))))))
theorem right_expr (hf : st.fine) (hb : tIs L st ⟨#[105, 110, 112, 117, 116]⟩ = false) (hn : isN (cur L st) = false ∨ (bytes (nextT L st) ≠ [91] ∧ bytes (nextT L st) ≠ [40])) (hs : Stp (.lvl 4) d st xs st') : Stp .right d st xs st' :=
  st_right (Run.bind (run_is (L := L) hf wInput) (Run.ite (fun h => absurd (hb.symm.trans h) (by decide)) (fun _ => Run.bind (run_named (L := L) hf) (Run.bind (run_next (L := L) hf)
    (Run.ite (fun h => by rcases hn with e | e; · exact absurd (e.symm.trans h.1) (by decide)
                          · exact absurd h.2 e.1) (fun _ => Run.ite (fun h => by rcases hn with e | e; · exact absurd (e.symm.trans h.1) (by decide)
                                                                                 · exact absurd h.2 e.2) (fun _ => hs)))))))
theorem Run.any {α : Type} {m : Rd α} {u v : α} (h : Run m st u st') (hb : ∀ l, st' ≠ .ok l) : Run m st v st' := by
  cases st with
  | bad a e => exact h
  | ok l =>
    rcases h with ⟨l1, h1, -⟩ | h
    · exact absurd h1 (hb l1)
    · exact .inr h
theorem load_head {l l' : List Tk} {f : Nat} (h : pRead f .load d l = .ok (xs, l')) : ∃ i, xs = [.mk 16 (pHd l).a (pHd l).t 0 i] := by
  cases f with
  | zero => rw [pRead] at h; cases h
  | succ f =>
    rw [pRead] at h
    unfold pName at h
    split at h
    · simp only [ok_ebind] at h
      cases h1 : pNeed [91] (pTl l) with
      | error e => rw [h1] at h; simp only [error_ebind] at h; cases h
      | ok l1 =>
        rw [h1] at h; simp only [ok_ebind] at h
        cases h2 : pRead f (.lvl 4) d l1 with
        | error e => rw [h2] at h; simp only [error_ebind] at h; cases h
        | ok p =>
          obtain ⟨y, l3⟩ := p
          rw [h2] at h; simp only [ok_ebind] at h
          cases h3 : pNeed [93] l3 with
          | error e => rw [h3] at h; simp only [error_ebind] at h; cases h
          | ok l4 =>
            rw [h3] at h; simp only [ok_ebind, pure, Except.pure] at h
            cases h
            exact ⟨y, rfl⟩
    · simp only [error_ebind] at h; cases h
theorem stp_load_head {a : Int} {t : ByteArray} {i : Syn} (h : Stp .load d st [.mk 16 a t 0 [i]] s1) (hb : ∃ l, s1 = .ok l) : a = (cur L st).a ∧ t = (cur L st).t := by
  obtain ⟨l1, rfl⟩ := hb
  cases st with
  | bad a e => cases h
  | ok l =>
    rcases elS h with ⟨l2, h2, -, -, N, hN⟩ | ⟨a, e, -, h2, -⟩
    · obtain ⟨j, hj⟩ := load_head (hN N (Nat.le_refl _))
      cases hj
      exact ⟨rfl, rfl⟩
    · cases h2
theorem stmt_store (hf : st.fine) (hn : isN (cur L st) = true) (hx : bytes (nextT L st) = [91]) {a : Int} {t : ByteArray} {i : Syn} (h1 : Stp .load d st [.mk 16 a t 0 [i]] s1) (h2 : Stp (.lvl 4) d (needS (tIs L s1 ⟨#[58, 61]⟩) s1) [y] s2) :
    Stp .stmt d st [.mk 10 a t 0 [i, y]] (needS (tIs L s2 ⟨#[59]⟩) s2) := by
  have f1 := Run.fine h1 hf
  have f2 := needS_fine (can := tIs L s1 ⟨#[58, 61]⟩) f1
  have f3 := Run.fine h2 f2
  have hr : Stp .stmt d st [.mk 10 (cur L st).a (cur L st).t 0 [i, y]] (needS (tIs L s2 ⟨#[59]⟩) s2) :=
    st_stmt (Run.bind (run_named (L := L) hf) (Run.ite (fun _ => Run.bind (run_next (L := L) hf) (Run.ite (fun _ => Run.bind (run_peek (L := L) hf) (Run.bind h1 (Run.bind (run_need (L := L) f1 [58, 61]) (Run.bind h2 (Run.bind (run_need (L := L) f3 [59]) (run_ret (needS_fine f3))))))) (fun h => absurd hx h))) (fun h => absurd hn h)))
  cases s1 with
  | ok l => obtain ⟨rfl, rfl⟩ := stp_load_head (L := L) h1 ⟨l, rfl⟩; exact hr
  | bad b e =>
    refine Run.any hr ?_
    rw [show s2 = .bad b e from h2]
    exact fun l h => by cases h
theorem stmt_call (hf : st.fine) (hn : isN (cur L st) = true) (hx : bytes (nextT L st) = [40]) (h1 : Stp .call d st [x] s1) :
    Stp .stmt d st [.mk 9 (cur L st).a ⟨#[]⟩ 0 [.mk 3 (cur L st).a ⟨#[]⟩ 0 [], x]] (needS (tIs L s1 ⟨#[59]⟩) s1) := by
  have f1 := Run.fine h1 hf
  exact st_stmt (Run.bind (run_named (L := L) hf) (Run.ite (fun _ => Run.bind (run_next (L := L) hf) (Run.ite (fun h => absurd (hx.symm.trans h) (by decide)) (fun _ => Run.ite (fun _ => Run.bind (run_peek (L := L) hf) (Run.bind h1 (Run.bind (run_need (L := L) f1 [59]) (run_ret (needS_fine f1))))) (fun h => absurd hx h)))) (fun h => absurd hn h)))
theorem stmt_assign (hf : st.fine) (hn : isN (cur L st) = true) (hx : bytes (nextT L st) ≠ [91] ∧ bytes (nextT L st) ≠ [40]) (h1 : Stp (.list .place) d st xs s1) (h2 : Stp .right d (needS (tIs L s1 ⟨#[58, 61]⟩) s1) [y] s2) :
    Stp .stmt d st [.mk 9 (cur L st).a ⟨#[]⟩ 0 [.mk 3 (cur L st).a ⟨#[]⟩ 0 xs, y]] (needS (tIs L s2 ⟨#[59]⟩) s2) := by
  have f1 := Run.fine h1 hf
  have f2 := needS_fine (can := tIs L s1 ⟨#[58, 61]⟩) f1
  have f3 := Run.fine h2 f2
  exact st_stmt (Run.bind (run_named (L := L) hf) (Run.ite (fun _ => Run.bind (run_next (L := L) hf) (Run.ite (fun h => absurd h hx.1) (fun _ => Run.ite (fun h => absurd h hx.2) (fun _ => Run.bind (run_peek (L := L) hf) (Run.bind h1 (Run.bind (run_need (L := L) f1 [58, 61]) (Run.bind h2 (Run.bind (run_need (L := L) f3 [59]) (run_ret (needS_fine f3)))))))))) (fun h => absurd hn h)))
theorem stmt_if (hf : st.fine) (hn : isN (cur L st) = false) (hi : tIs L st ⟨#[105, 102]⟩ = true) (h : Stp (.chain (cur L st).a) d (takeS st) xs st') : Stp .stmt d st xs st' :=
  st_stmt (Run.bind (run_named (L := L) hf) (Run.ite (fun h => absurd (hn.symm.trans h) (by decide)) (fun _ => Run.bind (run_is (L := L) hf wIf) (Run.ite (fun _ => Run.bind (run_take hf) h) (fun h => absurd hi h)))))
theorem stmt_while (hf : st.fine) (hn : isN (cur L st) = false) (hi : tIs L st ⟨#[105, 102]⟩ = false) (hw : tIs L st ⟨#[119, 104, 105, 108, 101]⟩ = true) (h : Run (mLoop d) st xs st') : Stp .stmt d st xs st' :=
  st_stmt (Run.bind (run_named (L := L) hf) (Run.ite (fun h => absurd (hn.symm.trans h) (by decide)) (fun _ => Run.bind (run_is (L := L) hf wIf) (Run.ite (fun h => absurd (hi.symm.trans h) (by decide)) (fun _ => Run.bind (run_is (L := L) hf wWhile) (Run.ite (fun _ => h) (fun h => absurd hw h)))))))
theorem stmt_assert (hf : st.fine) (hn : isN (cur L st) = false) (hi : tIs L st ⟨#[105, 102]⟩ = false) (hw : tIs L st ⟨#[119, 104, 105, 108, 101]⟩ = false) (ha : tIs L st ⟨#[97, 115, 115, 101, 114, 116]⟩ = true) (h : Run (mClaim 13 d) st xs st') : Stp .stmt d st xs st' :=
  st_stmt (Run.bind (run_named (L := L) hf) (Run.ite (fun h => absurd (hn.symm.trans h) (by decide)) (fun _ => Run.bind (run_is (L := L) hf wIf) (Run.ite (fun h => absurd (hi.symm.trans h) (by decide)) (fun _ => Run.bind (run_is (L := L) hf wWhile) (Run.ite (fun h => absurd (hw.symm.trans h) (by decide)) (fun _ => Run.bind (run_is (L := L) hf wAssert) (Run.ite (fun _ => h) (fun h => absurd ha h)))))))))
theorem stmt_assume (hf : st.fine) (hn : isN (cur L st) = false) (hi : tIs L st ⟨#[105, 102]⟩ = false) (hw : tIs L st ⟨#[119, 104, 105, 108, 101]⟩ = false) (ha : tIs L st ⟨#[97, 115, 115, 101, 114, 116]⟩ = false) (h : Run (mClaim 14 d) st xs st') : Stp .stmt d st xs st' :=
  st_stmt (Run.bind (run_named (L := L) hf) (Run.ite (fun h => absurd (hn.symm.trans h) (by decide)) (fun _ => Run.bind (run_is (L := L) hf wIf) (Run.ite (fun h => absurd (hi.symm.trans h) (by decide)) (fun _ => Run.bind (run_is (L := L) hf wWhile) (Run.ite (fun h => absurd (hw.symm.trans h) (by decide)) (fun _ => Run.bind (run_is (L := L) hf wAssert) (Run.ite (fun h => absurd (ha.symm.trans h) (by decide)) (fun _ => h)))))))))
theorem run_claim {k : Int} (hf : st.fine) (hc : Stp (.lvl 0) d (takeS st) [x] s1) : Run (mClaim k d) st [.mk k (cur L st).a ⟨#[]⟩ 0 [x]] (needS (tIs L s1 ⟨#[59]⟩) s1) := by
  have f1 := Run.fine hc (RSt.takeS_fine hf)
  exact Run.bind (run_take (L := L) hf) (Run.bind hc (Run.bind (run_need (L := L) f1 [59]) (run_ret (needS_fine f1))))
theorem run_loop (hf : st.fine) (hc : Stp (.lvl 0) d (takeS st) [x] s1) (hb : Stp .block d s1 [y] s2) : Run (mLoop d) st [.mk 12 (cur L st).a ⟨#[]⟩ 0 [x, y]] s2 := by
  have f1 := Run.fine hc (RSt.takeS_fine hf)
  exact Run.bind (run_take (L := L) hf) (Run.bind hc (Run.bind hb (run_ret (Run.fine hb f1))))
theorem chain_no {a : Int} (hf : st.fine) (hc : Stp (.lvl 0) d st [x] s1) (hb : Stp .block d s1 [y] s2) (he : tIs L s2 ⟨#[101, 108, 115, 101]⟩ = false) : Stp (.chain a) d st [.mk 11 a ⟨#[]⟩ 0 [x, y]] s2 := by
  have f1 := Run.fine hc hf
  have f2 := Run.fine hb f1
  exact st_chain (Run.bind hc (Run.bind hb (Run.bind (run_is (L := L) f2 wElse) (Run.ite (fun h => absurd (he.symm.trans h) (by decide)) (fun _ => run_ret f2)))))
theorem chain_else {a : Int} (hf : st.fine) (hc : Stp (.lvl 0) d st [x] s1) (hb : Stp .block d s1 [y] s2) (he : tIs L s2 ⟨#[101, 108, 115, 101]⟩ = true) (hi : tIs L (takeS s2) ⟨#[105, 102]⟩ = false) (hz : Stp .block d (takeS s2) [z] s3) : Stp (.chain a) d st [.mk 11 a ⟨#[]⟩ 0 [x, y, z]] s3 := by
  have f1 := Run.fine hc hf
  have f2 := Run.fine hb f1
  have f3 := RSt.takeS_fine f2
  exact st_chain (Run.bind hc (Run.bind hb (Run.bind (run_is (L := L) f2 wElse) (Run.ite (fun _ => Run.bind (run_take (L := L) f2) (Run.bind (run_is (L := L) f3 wIf) (Run.ite (fun h => absurd (hi.symm.trans h) (by decide)) (fun _ => Run.bind hz (run_ret (Run.fine hz f3)))))) (fun h => absurd he h)))))
theorem chain_if {a : Int} (hf : st.fine) (hc : Stp (.lvl 0) d st [x] s1) (hb : Stp .block d s1 [y] s2) (he : tIs L s2 ⟨#[101, 108, 115, 101]⟩ = true) (hi : tIs L (takeS s2) ⟨#[105, 102]⟩ = true) (hz : Stp (.chain (cur L (takeS s2)).a) (d + 1) (enterS L (takeS s2) d true) [z] s3) : Stp (.chain a) d st [.mk 11 a ⟨#[]⟩ 0 [x, y, z]] s3 := by
  have f1 := Run.fine hc hf
  have f2 := Run.fine hb f1
  have f3 := RSt.takeS_fine f2
  have hen := run_enter (L := L) (d := d) f3 wIf
  rw [show tIs L (takeS s2) ⟨wIf.toArray⟩ = true from hi] at hen
  exact st_chain (Run.bind hc (Run.bind hb (Run.bind (run_is (L := L) f2 wElse) (Run.ite (fun _ => Run.bind (run_take (L := L) f2) (Run.bind (run_is (L := L) f3 wIf) (Run.ite (fun _ => Run.bind hen (Run.bind hz (run_ret (Run.fine hz (Run.fine hen f3))))) (fun h => absurd hi h)))) (fun h => absurd he h)))))
end
end Go.Proofs.YtdibcllakkjegaaGreatDoor
