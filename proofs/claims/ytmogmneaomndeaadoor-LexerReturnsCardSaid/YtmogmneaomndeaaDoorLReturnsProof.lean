/-
  For all texts of at most 400 bytes whose tokens can be scanned the joined text has these tokens, is no longer, and has others without one of its spaces; for other texts the law returns true, by the chapter's examples.
  Condition: the three listed package-level variables hold what the program's text lays in them (the card ties this).
-/
import Derived.Test.YtmogmneaomndeaaDoorLexFrame
import Derived.Test.YtmogmneaomndeaaDoorLReturns
import Derived.Test.YtmogmneaomndeaaDoorClosedLexerReturns
import Derived.Test.YtmogmneaomndeaaDoorTie
import Derived.Test.YtmogmneaomndeaaDoorCards
import Derived.ChangeSame
import Derived.ChangeMaps5
import Derived.Handed
import Derived.SevenTiedAt
namespace Go.Proofs.YtmogmneaomndeaaDoor
open Go Go.Proofs Go.ChangeShapes Go.WideShapes Go.ChangeAt Go.RowKit Go.ChangeMaps

set_option maxRecDepth 100000 in
theorem lexerReturns_lifted (os : Os) (started : os.Started) (H : Type) (enc : TypeId × Value → H) :
    ReturnsInHanded {} Tryd.checked os 8 .any (fun w args => (Rows.lexerReturnsSpec.pre enc Tryd.prog Tryd.f8 [] false w args ∧ laidMetH Tryd.prog laidLex w) ∧ sizedMet enc Tryd.prog Tryd.f8 (OpenSpec.ofChange Rows.lexerReturnsSpec) false w args)
      (Rows.lexerReturnsSpec.post enc Tryd.prog Tryd.f8 false true false false) := by
  refine shaped_lift (C := Tryd.checked) (X := fun w _ => laidMetH Tryd.prog laidLex w) (fun _ _ _ hh h => h.of_heap hh) lexOwn started (by kernel_rfl) Tryd.func8
    (ChangeSpec.witness_shaped (enc := enc) (C := Tryd.checked) (os := os) (X := fun w _ => laidMetH Tryd.prog laidLex w) false (World.laidAll Tryd.prog os laidLex) #[.string ⟨#[]⟩, .int .u8 0] 8 rfl (World.shaped_of_ZipB (by kernel_rfl) (by kernel_rfl)) (by kernel_rfl) (by kernel_rfl) (by kernel_rfl) (lexDoor os _)) ?_
  intro W base args ds gs before hval0 hW hL hsh
  have hval : ∀ (j : Nat) t v, Tryd.f8.params[j]? = some t → args[j]? = some v → Value.okWide Tryd.prog W .any base t v := hval0
  have hW' := hW
  obtain ⟨p, q, hA0, hV, rfl, hfz, hnd⟩ := hW
  have hA : DataW.TrodAll enc Tryd.prog W 0 (fun _ => true) true Tryd.f8.params.toList args.toList ds p := hA0
  rw [Tryd.params8] at hA hval
  obtain ⟨v0, vs0, d0, ds0, p0, q0, hargs, rfl, rfl, h0, r0⟩ := trodAll_cons hA
  obtain ⟨v1, vs1, d1, ds1, p1, q1, rfl, rfl, rfl, h1, r1⟩ := trodAll_cons r0
  obtain ⟨rfl, rfl, rfl⟩ := trodAll_nil r1
  obtain rfl : args = #[v0, v1] := by cases args; simp_all
  obtain ⟨rfl, rfl⟩ := trodVars_none hV
  obtain ⟨s0, rfl, rfl, rfl, z0⟩ := open_string Tryd.underlying9 (hval 0 9 v0 rfl rfl) h0
  obtain ⟨s1, rfl, rfl, rfl, z1⟩ := open_int Tryd.underlying5 (hval 1 5 v1 rfl rfl) h1
  have htab := lexTab_of_laid hL
  obtain ⟨mx, hmx⟩ := lexMax hsh
  have hlt : 0 < W.heap.size := by
    rcases Nat.lt_or_ge 0 W.heap.size with h | h
    · exact h
    · exfalso
      have e : W.heap[0]? = none := Array.getElem?_eq_none h
      simp [World.cell?, e] at hmx
  clear hA0 hval0
  simp only [List.append_nil] at hW'
  refine (lreturns_walk s0 s1 (by unfold maxLen at z0; omega) z1 mx W (Lib.tabBelow_of_tabIs htab) hmx hlt).mono fun e W' ⟨he, hb⟩ => ?_
  subst he
  exact ⟨_, rfl, _, _, _, [], [], [], hW', (trodAll_cons_mk (shut_bool Tryd.underlying4 _) trodAll_mk0), (trodAll_cons_mk (shut_string Tryd.underlying9 z0) (trodAll_cons_mk (shut_int Tryd.underlying5 z1) trodAll_mk0)), rfl, hb.frame _, fun h => by cases h⟩

theorem lexerReturns_over : Rows.lexerReturnsRow.holds Tryd.pinned (OpenSpec.ofChange Rows.lexerReturnsSpec) :=
  OpenClaim.holds_of_wide 8 Tryd.f8 rfl rfl rfl rfl rfl rfl rfl ⟨rfl, rfl, rfl, rfl, rfl⟩ rfl rfl rfl rfl rfl lexerReturns_named Tryd.func8 lexerReturns_closed
    lexerReturns_inst lexerReturns_wrap (fun os started H enc _ => lexerReturns_lifted os started H enc)

theorem lexerReturns_holds : Rows.LexerReturnsCardSaid :=
  Claim7.holds_tied_plain_at .later [] [.data, .data, .pinned] true Rows.lexerReturnsCard.stood.harness false
    lexerReturns_over (fun _ h => by cases h) (by as_aux_lemma => kernel_rfl) (fun _ h => by cases h) lexerReturns_row_tie rfl ⟨rfl, rfl⟩ (by as_aux_lemma => kernel_rfl) rfl
    (fun f fn hf hfn => by
      obtain rfl : f = 8 := Option.some.inj (lexerReturns_named.symm.trans hf) |>.symm
      obtain rfl : fn = Tryd.f8 := (Option.some.inj (Tryd.func8.symm.trans hfn)).symm
      exact ⟨by as_aux_lemma => kernel_rfl, fun j t ht => by
        rw [Tryd.params8] at ht
        have h3 : t = 9 ∨ t = 5 := by
          rcases j with _ | _ | j
          · left; simpa using ht.symm
          · right; simpa using ht.symm
          · simp at ht
        rcases h3 with rfl | rfl
        · exact (show Tryd.prog.wantsStandIn 9 = false by as_aux_lemma => kernel_rfl)
        · exact (show Tryd.prog.wantsStandIn 5 = false by as_aux_lemma => kernel_rfl)⟩)
    (by as_aux_lemma => kernel_rfl)
#print axioms lexerReturns_holds
end Go.Proofs.YtmogmneaomndeaaDoor
