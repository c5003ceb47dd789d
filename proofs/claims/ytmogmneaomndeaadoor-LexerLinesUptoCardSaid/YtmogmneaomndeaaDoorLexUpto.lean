/-
  The second form of the lexer's rows: a condition of the specification's own beside the listed variables and the world's shape.
-/
import Derived.Test.YtmogmneaomndeaaDoorLexFrame
import Derived.JoinedCond
import Derived.ChangeMaps5
namespace Go.Proofs.YtmogmneaomndeaaDoor
open Go Go.Proofs Go.RowKit Go.ChangeShapes Go.WideShapes Go.ChangeMaps

section
variable {H : Type} {enc : TypeId × Value → H} {P : Program} {w : World}

/-- A world and arguments in which a specification's condition holds, as a test. -/
def condB (enc : TypeId × Value → H) (P : Program) (f : Func) (s : Go.OpenSpec) (k : (H : Type) → List (DataW H) → Bool) (w : World) (args : Array Value) (fuel : Nat) : Bool :=
  match DataW.whole enc P w f.params.toList s.vars false args.toList fuel with
  | some x => k H (x.1 ++ x.2.1)
  | none => false
theorem pre_of_condB {f : Func} {s : Go.OpenSpec} {k : (H : Type) → List (DataW H) → Bool} (hk : s.cond = some k) {args : Array Value} {fuel : Nat} (h : condB enc P f s k w args fuel = true) : s.pre enc P f [] false w args := by
  rw [OpenSpec.pre_some hk]
  unfold condB at h
  split at h
  · rename_i x hx
    exact ⟨x.1, x.2.1, x.2.2, DataW.Whole_of_whole hx, rfl, h⟩
  · cases h

theorem upto_shaped {C : Checked} {os : Os} {f : FuncId} {fn : Func} {s : Go.OpenSpec} {k : (H : Type) → List (DataW H) → Bool} (hk : s.cond = some k) {F : Stop.Interp} {X : World → Prop}
    (hX : ∀ v v' : World, v.heap = v'.heap → X v → X v') (hown : ownKnob C.prog.godebug = none) (started : os.Started) (noInit : C.prog.inits.idxOf? f = none) (hfn : C.prog.funcs[f]? = some fn)
    (w0 : World) (wargs : Array Value) (fuel : Nat) (hos : w0.os = os) (hsh : (w0.forCall (fun _ _ => 0) ⟨#[], wargs, []⟩).Shaped C.prog)
    (hok : Input.okWideB C.prog (w0.forCall (fun _ _ => 0) ⟨#[], wargs, []⟩) f ⟨#[], wargs, []⟩ = true)
    (hcb : condB enc C.prog fn s k (w0.forCall (fun _ _ => 0) ⟨#[], wargs, []⟩).memory wargs fuel = true)
    (hsz : s.bare.sizedB enc C.prog fn false (w0.forCall (fun _ _ => 0) ⟨#[], wargs, []⟩).memory wargs fuel = true)
    (hx0 : X (w0.forCall (fun _ _ => 0) ⟨#[], wargs, []⟩).memory)
    (contract : ∀ (W : World) (base : Nat) (args : Array Value) (ds gs : List (DataW H)) (before : List MemPlace),
      (∀ (j : Nat) t v, fn.params[j]? = some t → args[j]? = some v → Value.okWide C.prog W .any base t v) →
      DataW.Whole enc C.prog fn.params.toList s.vars false W args.toList ds gs before → k H (ds ++ gs) = true → X W → W.ShapedOpen C.prog →
      Calls C.prog f args W fun e W' => ∃ v, e = .returned v ∧ (s.at F).post enc C.prog fn false true false false W args v W') :
    ReturnsInHanded {} C os f .any (fun v args => (s.pre enc C.prog fn [] false v args ∧ X v) ∧ sizedMet enc C.prog fn s false v args) ((s.at F).post enc C.prog fn false true false false) := by
  refine returnsInHanded_of_calls hown started noInit ⟨w0, fun _ _ => 0, ⟨#[], wargs, []⟩, hos, hsh, (Input.okWide_of_okWideB (base := 0) hok).1, (Input.okWide_of_okWideB hok).2, ⟨⟨pre_of_condB hk hcb, hx0⟩, ?_⟩, ?_⟩ ?_
  · exact sizedMet_of_sizedB hsz
  · simp only [Assume.holds]
    exact ⟨by simp, by simp, by simp, by simp, by simp⟩
  · intro v tape i _ hshv _ hin hpre _
    obtain ⟨_, _, _, g, hg, _, _, _, _, hval⟩ := hin
    obtain rfl : g = fn := Option.some.inj (hg.symm.trans hfn)
    obtain ⟨⟨hp, hx⟩, -⟩ := hpre
    obtain ⟨ds, gs, before, hw, -, hkk⟩ := (OpenSpec.pre_some hk _ _ _ _).1 hp
    refine (contract (v.forCall tape i) v.heap.size i.args ds gs before hval (DataW.Whole.of_heap (by rfl) hw) hkk (hX _ _ (by rfl) hx) hshv).mono fun e W' ⟨r, he, hq⟩ => ?_
    subst he
    exact ChangeSpec.post_blind hq

theorem bulk_lit (bs : List UInt8) : Rows.uptoBulk (.lit (.string bs) : DataW H) = bs.length + 1 := by simp [Rows.uptoBulk]
theorem bulk_cons (d : DataW H) (l : List (DataW H)) : Rows.uptoBulkAll (d :: l) = Rows.uptoBulk d + Rows.uptoBulkAll l := by simp [Rows.uptoBulkAll]
theorem bulk_nil : Rows.uptoBulkAll ([] : List (DataW H)) = 0 := by simp [Rows.uptoBulkAll]
end
end Go.Proofs.YtmogmneaomndeaaDoor
