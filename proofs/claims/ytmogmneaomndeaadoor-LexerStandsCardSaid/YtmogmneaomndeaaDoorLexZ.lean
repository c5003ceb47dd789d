/-
  Where tokens stand; strings.Trim of blank texts.
-/
import Derived.Test.YtmogmneaomndeaaDoorLexY
import Derived.Shelf.Strings.SlTrimAscii
set_option linter.unusedSimpArgs false
set_option linter.unusedVariables false
namespace Go.Proofs.YtmogmneaomndeaaDoor
open Go Go.Proofs Go.RowKit

/-- The tokens of the rest of a text stand at their offsets behind an end, with blank lines between them. -/
def St (L : List UInt8) : Nat → List (Int × List UInt8 × Nat) → Prop
  | _, [] => False
  | e, t :: r => e ≤ t.2.2 ∧ t.2.2 + t.2.1.length ≤ L.length ∧ (L.drop t.2.2).take t.2.1.length = t.2.1 ∧ (∀ p ∈ lns ((L.drop e).take (t.2.2 - e)), blk p) ∧
      ((r = [] ∧ t.1 = 3 ∧ t.2.1 = [] ∧ t.2.2 = L.length) ∨ (r ≠ [] ∧ t.1 ≠ 3 ∧ t.2.1 ≠ [] ∧ St L (t.2.2 + t.2.1.length) r))
theorem sq_stand (L : List UInt8) : ∀ (f a : Nat), a ≤ L.length → (L.drop a).length < f → (sq f a (L.drop a)).2.2 = 0 → St L a (sq f a (L.drop a)).1
  | 0, _, _, h, _ => by omega
  | f + 1, a, ha, h, h0 => by
    have hgap := gap_ok (L.drop a)
    have hdl : (L.drop a).length = L.length - a := List.length_drop
    rcases sq_cases f a (L.drop a) with ⟨-, hs, e⟩ | ⟨k, m, hk, hm, hne, hl, -, he, e⟩ | ⟨k, x, z, hk, hm, hx, hl, -, ht, -, he, htx, e⟩
    · rw [e]
      rw [hs] at hgap
      refine ⟨by show a ≤ a + _; omega, by show a + _ + 0 ≤ _; omega, by simp, ?_, .inl ⟨rfl, rfl, rfl, by show a + _ = _; omega⟩⟩
      show ∀ p ∈ lns ((L.drop a).take (a + (L.drop a).length - a)), blk p
      rw [Nat.add_sub_cancel_left]; exact hgap
    · rw [e] at h0; exact absurd h0 he
    · have hp : 0 < x.length := List.length_pos_iff.2 hx
      rw [e] at h0 ⊢
      rw [hk] at hgap
      have hz : z = L.drop (a + k + x.length) := by
        have := congrArg (List.drop x.length) hm
        rw [List.drop_left' rfl, List.drop_drop, List.drop_drop] at this
        rw [Nat.add_assoc]; exact this.symm
      have hx2 : (L.drop (a + k)).take x.length = x := by
        rw [← List.drop_drop, hm, List.take_left' rfl]
      subst hz
      have ih := sq_stand L f (a + k + x.length) (by omega) (by omega) h0
      have hnr := (sq_ends f (a + k + x.length) (L.drop (a + k + x.length)) (by omega)).1 h0
      refine ⟨by show a ≤ a + k; omega, by show a + k + x.length ≤ _; omega, hx2, ?_, .inr ⟨hnr, ?_, hx, ih⟩⟩
      · show ∀ p ∈ lns ((L.drop a).take (a + k - a)), blk p
        rw [Nat.add_sub_cancel_left]; exact hgap
      · show tkd x ≠ 3
        have := tkd_in x
        omega
theorem st_all {s : ByteArray} (h : s.size ≤ 65536) (he : (scR s).2.2 = 0) : St (bytes s) 0 (sqR (bytes s)).1 ∧ (scR s).1 = (sqR (bytes s)).1.map toTk := by
  obtain ⟨h0, h1, -⟩ := scR_ok h he
  have := sq_stand (bytes s) ((bytes s).length + 1) 0 (Nat.zero_le _) (by rw [List.drop_zero]; exact Nat.lt_succ_self _) (by rw [List.drop_zero]; exact h0)
  rw [List.drop_zero] at this
  exact ⟨this, h1⟩

theorem cs_ascii : ∀ (j : Nat) b, (⟨#[32, 9, 13]⟩ : ByteArray).data.toList[j]? = some b → b.toNat < 128 := fun j b h => by
  have hm : b ∈ ([32, 9, 13] : List UInt8) := List.mem_of_getElem? h
  simp at hm
  rcases hm with rfl | rfl | rfl <;> decide
set_option maxRecDepth 100000 in
theorem trim_any (p : ByteArray) (w : World) (hp : ∀ b ∈ bytes p, b = 32 ∨ b = 9 ∨ b = 13) (hn : p.size ≤ 1000000) :
    Calls Tryd.prog 31 #[.string p, .string ⟨#[32, 9, 13]⟩] w fun e w' => e = .returned (.string ⟨#[]⟩) ∧ Below w.heap.size w w' := by
  by_cases h0 : p.size = 0
  · obtain rfl := empty_of_size h0
    clear hp hn h0
    go_enter Tryd.func31, Tryd.ntmps31
    go_wp2
    go_ret
    exact ⟨rfl, Below.refl _ _⟩
  have ht : Lib.trimS p.data.toList (⟨#[32, 9, 13]⟩ : ByteArray).data.toList = [] := by
    have hr : Lib.trimRightS p.data.toList (⟨#[32, 9, 13]⟩ : ByteArray).data.toList = [] := by
      rw [Lib.trimRightS_take _ _ 0 (Nat.zero_le _) (fun j b _ hb => by
        have hm : b ∈ bytes p := List.mem_of_getElem? hb
        rcases hp b hm with rfl | rfl | rfl <;> decide) (fun b h => absurd h (Nat.lt_irrefl _))]
      rfl
    unfold Lib.trimS
    rw [hr]; rfl
  refine (Any.strings_Trim_set Tryd.lays160 Tryd.zeroValue83 (by kernel_rfl) p ⟨#[32, 9, 13]⟩ w (by decide) (by omega) (by omega) (by decide) cs_ascii).mono ?_
  rintro e w' ⟨rfl, q, rfl⟩
  refine ⟨by rw [ht], ?_⟩
  exact below_drewN (((Below.refl w.heap.size w).alloc (Nat.le_refl _) _).alloc (by simp) _) q
end Go.Proofs.YtmogmneaomndeaaDoor
