/-
  lexer.Join.
-/
import Derived.Test.YtmogmneaomndeaaDoorLexE
import Derived.Test.YtmogmneaomndeaaDoorLexG
import Derived.Test.YtmogmneaomndeaaDoorShelfP
import Derived.BigQuiet
import Derived.Deep.QuietTactic
set_option linter.unusedSimpArgs false
set_option linter.unusedVariables false
namespace Go.Proofs.YtmogmneaomndeaaDoor
open Go Go.Proofs Go.RowKit

/-- A slice of tokens. -/
def TRow (W : World) (ao : Option Addr) (c : Nat) (l : List Tk) : Prop :=
  l.length ≤ c ∧ c ≤ maxLen ∧ (l = [] ∨ ∃ b o, ao = some ⟨b, o, none⟩ ∧ b < W.heap.size ∧ ∀ j u, (tkCells l)[j]? = some u → W.cell? ⟨b, o + j, none⟩ = some u)
theorem tkCells_at : ∀ (l : List Tk) (j : Nat) (h : j < l.length), (tkCells l)[j * 3]? = some (.int .i64 (l[j]'h).k) ∧ (tkCells l)[j * 3 + 1]? = some (.string (l[j]'h).t) ∧ (tkCells l)[j * 3 + 2]? = some (.int .i64 (l[j]'h).a)
  | [], j, h => by simp at h
  | t :: l, 0, h => ⟨rfl, rfl, rfl⟩
  | t :: l, j + 1, h => by
    obtain ⟨h1, h2, h3⟩ := tkCells_at l j (by simpa using h)
    have e : tkCells (t :: l) = .int .i64 t.k :: .string t.t :: .int .i64 t.a :: tkCells l := rfl
    rw [e, show (j + 1) * 3 = j * 3 + 1 + 1 + 1 by omega, show j * 3 + 1 + 1 + 1 + 1 = (j * 3 + 1) + 1 + 1 + 1 by omega, show j * 3 + 1 + 1 + 1 + 2 = (j * 3 + 2) + 1 + 1 + 1 by omega]
    simp only [List.getElem?_cons_succ, List.getElem_cons_succ]
    exact ⟨h1, h2, h3⟩
/-- The token at a place. -/
def tkD (l : List Tk) (j : Nat) : Tk := l.getD j ⟨0, ⟨#[]⟩, 0⟩
theorem tkD_eq {l : List Tk} {j : Nat} (h : j < l.length) : tkD l j = l[j]'h := by unfold tkD; rw [List.getD_eq_getElem?_getD, List.getElem?_eq_getElem h]; rfl
theorem tkD_drop {l : List Tk} {j : Nat} (h : j < l.length) : l.drop j = tkD l j :: l.drop (j + 1) := by rw [tkD_eq h]; exact List.drop_eq_getElem_cons h
theorem tkD_mem {l : List Tk} {j : Nat} (h : j < l.length) : tkD l j ∈ l := by rw [tkD_eq h]; exact List.getElem_mem h
theorem tail_empty {l : List Tk} {j m : Nat} (hm : l.length = m + 1) : (l.drop (j + 1)).isEmpty = decide (m ≤ j) := by
  rw [Bool.eq_iff_iff, List.isEmpty_iff, decide_eq_true_iff, List.drop_eq_nil_iff]; omega
theorem TRow.keep {W W' : World} {ao : Option Addr} {c : Nat} {l : List Tk} (h : TRow W ao c l) (hb : Below W.heap.size W W') : TRow W' ao c l := by
  obtain ⟨h1, h2, h3⟩ := h
  refine ⟨h1, h2, h3.imp_right ?_⟩
  rintro ⟨b, o, e, hlt, hc⟩
  exact ⟨b, o, e, Nat.lt_of_lt_of_le hlt hb.size, fun j u hu => (hb.cell (p := ⟨b, o + j, none⟩) hlt).trans (hc j u hu)⟩
theorem TRow.of_owns {W : World} {B : Nat} {v : Value} {l : List Tk} (h : W.ownsRow B 49 3 v l.length (tkCells l)) : ∃ ao c, v = .slice ao l.length c ∧ TRow W ao c l := by
  rcases h.2 with ⟨e, h0⟩ | ⟨g, cap, cur, e, -, hg, h1, h2, h3, h4⟩
  · exact ⟨none, 0, by rw [e, h0], by omega, by decide, .inl (List.length_eq_zero_iff.1 h0)⟩
  · subst e
    refine ⟨_, cap, rfl, h1, h2, .inr ⟨g, 0, rfl, (Array.getElem?_eq_some_iff.1 hg).1, fun j u hu => ?_⟩⟩
    have hj : j < l.length * 3 := by rw [← tkCells_length]; exact (List.getElem?_eq_some_iff.1 hu).1
    rw [Nat.zero_add, h.cellAt j hj]
    exact hu

/-- The error of the first token that has one. -/
def ckL : List Tk → Nat
  | [] => 0
  | t :: r => if ckE t.k (bytes t.t) r.isEmpty = 0 then ckL r else ckE t.k (bytes t.t) r.isEmpty
/-- The joined text behind a text (the last token's text first), none if it is too long. -/
def jnT : Option (List UInt8) → List UInt8 → List Tk → Option (List UInt8)
  | _, o, [] => some o
  | p, o, t :: r =>
    let o1 := (match p with | some q => if apB q (bytes t.t) = true then o else o ++ [32] | none => o) ++ bytes t.t
    if 65536 < o1.length then none else jnT (some (bytes t.t)) o1 r
/-- The text of the token before. -/
def pvT (l : List Tk) (j : Nat) : Option (List UInt8) := if j = 0 then none else some (bytes (tkD l (j - 1)).t)
/-- What Join answers. -/
def joinR (l : List Tk) : ByteArray × Nat :=
  match l.getLast? with
  | none => (⟨#[]⟩, 20)
  | some t => if t.k = 3 then (if ckL l = 0 then (match jnT none [] l with | none => (⟨#[]⟩, 13) | some o => (str o, 0)) else (⟨#[]⟩, ckL l)) else (⟨#[]⟩, 20)
/-- The text before a token, with its space. -/
def outS (p : Option (List UInt8)) (o t : List UInt8) : List UInt8 := match p with | some q => if apB q t = true then o else o ++ [32] | none => o
theorem jn_step {l : List Tk} {m j : Nat} (hm : l.length = m + 1) (h : j < m + 1) (o : List UInt8) :
    jnT (pvT l j) o (l.drop j) = if 65536 < (outS (pvT l j) o (bytes (tkD l j).t) ++ bytes (tkD l j).t).length then none else jnT (pvT l (j + 1)) (outS (pvT l j) o (bytes (tkD l j).t) ++ bytes (tkD l j).t) (l.drop (j + 1)) := by
  have e := tkD_drop (l := l) (j := j) (by omega)
  have e2 : pvT l (j + 1) = some (bytes (tkD l j).t) := by unfold pvT; rw [if_neg (by omega)]; rfl
  rw [e, e2]
  generalize pvT l j = p
  cases p <;> rfl
theorem isB_keep {B b : Nat} {l : List Value} {W W' : World} (h : IsB B b l W) (hb : Below W.heap.size W W') : IsB B b l W' := by
  have key : ∀ p, Lib.BuilderAt 68 5 B b p l W → Lib.BuilderAt 68 5 B b p l W' := by
    rintro p ⟨h1, v, h2, h3, h4⟩
    refine ⟨h1, v, ?_, ?_, h4⟩
    · rw [hb.block b (Array.getElem?_eq_some_iff.1 h2).1]; exact h2
    · obtain ⟨q1, q2⟩ := h3
      refine ⟨q1, q2.imp_right fun ⟨g, cap, cur, e, hg, hgg, r⟩ => ⟨g, cap, cur, e, hg, ?_, r⟩⟩
      rw [hb.block g (Array.getElem?_eq_some_iff.1 hgg).1]; exact hgg
  exact h.imp (key _) (key _)
theorem box_kept {b q : Nat} {W W' : World} {x y z : Value} (h : W.heap[q]? = some (.cells #[x, y, z] 49 (0, 0))) (hq : q ≠ b) (hk : Lib.OthersKept 5 (some b) W W') : W'.heap[q]? = some (.cells #[x, y, z] 49 (0, 0)) :=
  hk q _ h (fun e => hq (Option.some.inj e)) (fun c fz e => by
    rw [Obj.cells.injEq] at e
    exact absurd e.2.1 (by decide))

set_option maxHeartbeats 1000000 in
theorem join_any (l : List Tk) (ao : Option Addr) (c : Nat) (w : World) (hr : TRow w ao c l) (hz : ∀ t ∈ l, t.t.size ≤ 9223372036854775807) (hv : ckL l = 0 → ∀ t ∈ l, t.t.size ≤ 1000000) (hn : l.length ≤ 1000000) (ht : Lib.TabBelow Tryd.prog w.heap.size w "surveyor/lexer.classes" .u8 clsTab) :
    Calls Tryd.prog 23 #[.slice ao l.length c] w fun e w' => e = .returned (.tuple #[.string (joinR l).1, .int .i64 ((joinR l).2 : Nat)]) ∧ Below w.heap.size w w' := by
  by_cases h0 : l = []
  · subst h0
    clear hr hz hv hn ht
    show Calls Tryd.prog 23 #[.slice ao 0 c] w fun e w' => e = .returned (.tuple #[.string ⟨#[]⟩, .int .i64 20]) ∧ Below w.heap.size w w'
    go_enter Tryd.func23, Tryd.ntmps23
    go_wp2
    refine bodyPost_ret (by simp [results, Tryd.results23, go_sem]; rfl) rfl ?_
    exact ⟨rfl, Below.refl _ _⟩
  obtain ⟨b, o, rfl, hlt, hcell⟩ := hr.2.2.resolve_left h0
  have hlen : 0 < l.length := List.length_pos_iff.2 h0
  obtain ⟨m, hm⟩ : ∃ m, l.length = m + 1 := ⟨l.length - 1, by omega⟩
  have hat : ∀ j, j < l.length → ∀ W, Below w.heap.size w W → W.cell? ⟨b, o + j * 3, none⟩ = some (.int .i64 (tkD l j).k) ∧ W.cell? ⟨b, o + j * 3 + 1, none⟩ = some (.string (tkD l j).t) ∧ W.cell? ⟨b, o + j * 3 + 2, none⟩ = some (.int .i64 (tkD l j).a) := fun j h W hW => by
    obtain ⟨h1, h2, h3⟩ := tkCells_at l j h
    rw [tkD_eq h]
    refine ⟨?_, ?_, ?_⟩
    · rw [hW.cell (p := ⟨b, o + j * 3, none⟩) hlt]; exact hcell _ _ h1
    · rw [hW.cell (p := ⟨b, o + j * 3 + 1, none⟩) hlt]; exact hcell _ _ h2
    · rw [hW.cell (p := ⟨b, o + j * 3 + 2, none⟩) hlt]; exact hcell _ _ h3
  have hlast : l.getLast? = some (tkD l m) := by rw [tkD_eq (by omega), List.getLast?_eq_getElem?, show l.length - 1 = m by omega, List.getElem?_eq_getElem (by omega)]
  have hR : joinR l = if (tkD l m).k = 3 then (if ckL l = 0 then (match jnT none [] l with | none => (⟨#[]⟩, 13) | some o => (str o, 0)) else (⟨#[]⟩, ckL l)) else (⟨#[]⟩, 20) := by
    unfold joinR; rw [hlast]
  have hzz : ∀ j, j < l.length → (tkD l j).t.size ≤ 9223372036854775807 := fun j h => hz _ (tkD_mem h)
  have hc0 := (hat m (by omega) w (Below.refl _ _)).1
  have e1 : wrap64 (m : Int) = (m : Int) := by unfold wrap64; omega
  have m0 : decide ((m : Int) < 0) = false := by rw [decide_eq_false_iff_not]; omega
  have m1 : (m : Int) < (m : Int) + 1 := by omega
  have m2 : (0 : Int) ≤ (m : Int) := by omega
  rw [hR]
  generalize hk : (tkD l m).k = k at *
  rw [hm]
  by_cases h3 : k = 3
  · rw [if_pos h3]
    have b3 : (k == 3) = true := by rw [beq_iff_eq]; exact h3
    have b4 : (k != 3) = false := by rw [bne_eq_false_iff_eq]; exact h3
    have CK : ∀ j, j < l.length → ∀ W, Below w.heap.size w W → Calls Tryd.prog 50 #[.agg #[.int .i64 (tkD l j).k, .string (tkD l j).t, .int .i64 (tkD l j).a], .bool ((j : Int) == (m : Int))] W fun e w' => e = .returned (.int .i64 (ckE (tkD l j).k (bytes (tkD l j).t) ((j : Int) == (m : Int)) : Nat)) ∧ Below W.heap.size W w' := fun j h W hW =>
      checkToken_any _ _ _ _ (by have := hzz j h; omega) W (Lib.tabBelow_of_tabIs (ht W hW))
    have hck : ∀ j, j < m + 1 → ckL (l.drop j) = if ckE (tkD l j).k (bytes (tkD l j).t) ((j : Int) == (m : Int)) = 0 then ckL (l.drop (j + 1)) else ckE (tkD l j).k (bytes (tkD l j).t) ((j : Int) == (m : Int)) := fun j h => by
      rw [tkD_drop (by omega)]
      show (if ckE _ _ (l.drop (j + 1)).isEmpty = 0 then _ else _) = _
      have e : (l.drop (j + 1)).isEmpty = ((j : Int) == (m : Int)) := by
        rw [tail_empty hm, Bool.eq_iff_iff, decide_eq_true_iff, beq_iff_eq]; omega
      rw [e]
    have hck0 : ckL (l.drop (m + 1)) = 0 := by rw [List.drop_eq_nil_of_le (by omega)]; rfl
    obtain ⟨G, hG⟩ : ∃ G : ByteArray × Nat, G = (if ckL l = 0 then (match jnT none [] l with | none => (⟨#[]⟩, 13) | some o => (str o, 0)) else (⟨#[]⟩, ckL l)) := ⟨_, rfl⟩
    rw [← hG]
    have KG := Lib.hid hG; have H3 := Lib.hid h3; have HAT := Lib.hid hat; have KCK := Lib.hid CK; have HCK := Lib.hid hck; have HCK0 := Lib.hid hck0; have HT := Lib.hid ht; have HV := Lib.hid hv; have HM := Lib.hid hm; have HNN := Lib.hid hn
    clear hr hz hv hn ht h0 hcell hlen hat hlast h3 hR hzz hk CK hck hck0 hG hm
    go_enter Tryd.func23, Tryd.ntmps23
    go_wp2_with fail
    rw [e1]
    go_loopw [26] (fun iv wr => ∃ j : Nat, j ≤ m + 1 ∧ iv = .int .i64 (j : Int) ∧ ckL (l.drop j) = ckL l ∧ Below w.heap.size w wr) (fun iv _ => m + 1 - (intOf iv).toNat)
    case atStart => exact ⟨0, Nat.zero_le _, rfl, rfl, Below.refl _ _⟩
    case round =>
      obtain ⟨j, hj, rfl, hcl, hB⟩ := hrel
      by_cases hlt2 : j < m + 1
      · have hck := HCK.out j hlt2
        have CK := KCK.out j (by rw [HM.out]; exact hlt2)
        obtain ⟨d0, d1, d2⟩ := HAT.out j (by rw [HM.out]; exact hlt2) wr hB
        rw [hcl] at hck
        have g0 : (0 : Int) ≤ (j : Int) := by omega
        have g1 : (j : Int) < (m : Int) + 1 := by omega
        have ej : wrap64 ((j : Int) + 1) = (j : Int) + 1 := by have q1 := HNN.out; have q2 := HM.out; unfold wrap64; omega
        generalize hlb : ((j : Int) == (m : Int)) = lb at *
        generalize ckE (tkD l j).k (bytes (tkD l j).t) lb = ne at *
        generalize tkD l j = T at *
        obtain ⟨tk, tt, ta⟩ := T
        by_cases hne : ne = 0
        · subst hne
          rw [if_pos rfl] at hck
          have hA : Below w.heap.size w (wr.alloc (Obj.cells #[.int .i64 tk, .string tt, .int .i64 ta] 49)) := hB.alloc hB.size _
          have CK1 := CK _ hA
          have KC := Lib.hid CK1; have HA := Lib.hid hA; have HC := Lib.hid hck
          clear CK CK1 hA hck hcl hB
          go_wp2_with (go_at_call 50; refine KC.out.mono ?_; rintro e w3 ⟨rfl, hb3⟩; refine Hid.out ?_)
          have hB3 := Below.chain HA.out hb3
          have HB3 := Lib.hid hB3; clear hB3 hb3
          refine Lib.hid ?_
          go_wp2
          go_roundw
          case rel => exact ⟨j + 1, by omega, congrArg (Value.int .i64) (ej.trans (Int.natCast_add j 1).symm), HC.out.symm, HB3.out⟩
          case measure => rw [ej]; show m + 1 - ((j : Int) + 1).toNat < m + 1 - ((j : Int)).toNat; omega
        · rw [if_neg hne] at hck
          have hA : Below w.heap.size w (wr.alloc (Obj.cells #[.int .i64 tk, .string tt, .int .i64 ta] 49)) := hB.alloc hB.size _
          have CK1 := CK _ hA
          have hG2 : G = (⟨#[]⟩, ne) := by
            rw [KG.out, if_neg (by rw [hck]; exact hne), hck]
          have tne : ((ne : Int) == 0) = false := by rw [beq_eq_false_iff_ne]; omega
          have tne2 : ((ne : Int) != 0) = true := by rw [bne_iff_ne]; omega
          have KC := Lib.hid CK1; have HA := Lib.hid hA; have HC := Lib.hid hck; have HG2 := Lib.hid hG2; have HNE := Lib.hid hne
          clear CK CK1 hA hck hcl hB hG2 hne
          go_wp2_with (go_at_call 50; refine KC.out.mono ?_; rintro e w3 ⟨rfl, hb3⟩; refine Hid.out ?_)
          have hB3 := Below.chain HA.out hb3
          have HB3 := Lib.hid hB3; clear hB3 hb3
          refine Lib.hid ?_
          go_wp2
          refine bodyPost_ret (by simp [results, Tryd.results23, go_sem]; rfl) rfl ?_
          rw [HG2.out]
          exact ⟨rfl, HB3.out⟩
      · obtain rfl : j = m + 1 := by omega
        rename World => W0
        have hcl0 : ckL l = 0 := by rw [← hcl]; exact HCK0.out
        have HZZ : Hid (∀ j, j < l.length → (tkD l j).t.size ≤ 1000000) := Lib.hid fun j h => HV.out hcl0 _ (tkD_mem h)
        have hG2 : G = (match jnT none [] l with | none => (⟨#[]⟩, 13) | some o => (str o, 0)) := by rw [KG.out, if_pos hcl0]
        have HG2 := Lib.hid hG2
        have ge : decide (((m + 1 : Nat) : Int) < (m : Int) + 1) = false := by rw [decide_eq_false_iff_not]; omega
        have ge2 : decide ((m : Int) + 1 < (m : Int) + 1) = false := by rw [decide_eq_false_iff_not]; omega
        have HBR := Lib.hid hB
        have hfb := Lib.fresh_isBuilder 68 5 W0
        have hA := hB.alloc hB.size (Obj.cells #[.pointer none, .slice none 0 0] 68)
        have HFB := Lib.hid hfb; have HA := Lib.hid hA
        clear hB hfb hA hG2 hcl hcl0 hj hlt2 HCK KCK
        go_wp2_with fail
        rw [show (((m + 1 : Nat)) : Int) = (m : Int) + 1 from rfl]
        go_loopw [42] (fun iv w2 => ∃ (j : Nat) (out : List UInt8), j ≤ m + 1 ∧ iv = .int .i64 (j : Int) ∧ jnT (pvT l j) out (l.drop j) = jnT none [] l ∧ out.length ≤ 65536 ∧ IsB W0.heap.size W0.heap.size (Lib.byteCells out) w2 ∧ W0.heap.size < w2.heap.size ∧ Below w.heap.size w w2) (fun iv _ => m + 1 - (intOf iv).toNat)
        case atStart => exact ⟨0, [], Nat.zero_le _, rfl, rfl, Nat.zero_le _, HFB.out, by simp, HA.out⟩
        case round =>
          obtain ⟨j, out, hj, rfl, hjn, hol, hI, hq, hB⟩ := hrel
          by_cases hlt2 : j < m + 1
          · have hst := jn_step HM.out hlt2 out
            rw [hjn] at hst
            obtain ⟨d0, d1, d2⟩ := HAT.out j (by rw [HM.out]; exact hlt2) wr hB
            have hts := HZZ.out j (by rw [HM.out]; exact hlt2)
            have g0 : (0 : Int) ≤ (j : Int) := by omega
            have g1 : (j : Int) < (m : Int) + 1 := by omega
            have ej : wrap64 ((j : Int) + 1) = (j : Int) + 1 := by have q1 := HNN.out; have q2 := HM.out; unfold wrap64; omega
            have hWA := (Below.refl wr.heap.size wr).alloc (Nat.le_refl _) (Obj.cells #[.int .i64 (tkD l j).k, .string (tkD l j).t, .int .i64 (tkD l j).a] 49)
            have hIA := isB_keep hI hWA
            have hBA := Below.chain hB hWA
            have hqA := Nat.lt_of_lt_of_le hq hWA.size
            have hbox : (wr.alloc (Obj.cells #[.int .i64 (tkD l j).k, .string (tkD l j).t, .int .i64 (tkD l j).a] 49)).heap[wr.heap.size]? = some (.cells #[.int .i64 (tkD l j).k, .string (tkD l j).t, .int .i64 (tkD l j).a] 49 (0, 0)) := heap_alloc_new wr _
            have HJ := Lib.hid hlt2
            have hql : W0.heap.size ≤ (wr.alloc (Obj.cells #[.int .i64 (tkD l j).k, .string (tkD l j).t, .int .i64 (tkD l j).a] 49)).heap.size := Nat.le_of_lt hqA
            have KW : ∀ (O1 : List UInt8), O1.length ≤ 70000 → ∀ W : World, IsB W0.heap.size W0.heap.size (Lib.byteCells O1) W → W0.heap.size < W.heap.size → Below w.heap.size w W → Calls Tryd.prog 53 #[.pointer (some ⟨W0.heap.size, 0, none⟩), .string (tkD l j).t] W fun e w' => e = .returned (.tuple #[.int .i64 ((tkD l j).t.size : Nat), .nilIface]) ∧ AtB W0.heap.size W0.heap.size (Lib.byteCells (O1 ++ bytes (tkD l j).t)) w' ∧ (Below w.heap.size w w' ∧ W0.heap.size < w'.heap.size) := fun O1 ho W hI hq hB => by
              refine (wrString_any W0.heap.size W0.heap.size (Lib.byteCells O1) (tkD l j).t W hI (by rw [Lib.byteCells_length]; omega) (by omega) (Nat.le_of_lt hq)).mono ?_
              rintro e w' ⟨h1, h2, h3, -⟩
              refine ⟨h1, ?_, hB.trans (h3.mono HBR.out.size), Nat.lt_of_lt_of_le hq h3.size⟩
              rw [Lib.byteCells_append]
              exact h2
            by_cases hj0 : j = 0
            · have gz : decide ((0 : Int) < (j : Int)) = false := by rw [decide_eq_false_iff_not]; omega
              have gz2 : decide (0 < j) = false := by rw [decide_eq_false_iff_not]; omega
              have ho : outS (pvT l j) out (bytes (tkD l j).t) = out := by rw [hj0]; rfl
              rw [ho] at hst
              have KWS : ∀ W, Below (wr.alloc (Obj.cells #[.int .i64 (tkD l j).k, .string (tkD l j).t, .int .i64 (tkD l j).a] 49)).heap.size (wr.alloc (Obj.cells #[.int .i64 (tkD l j).k, .string (tkD l j).t, .int .i64 (tkD l j).a] 49)) W → _ := fun W hW => KW out (by omega) W (isB_keep hIA hW) (Nat.lt_of_lt_of_le hqA hW.size) (Below.chain hBA hW)
              generalize hO2 : out ++ bytes (tkD l j).t = O2 at *
              generalize tkD l j = T at *
              obtain ⟨tk, tt, ta⟩ := T
              have KWS := Lib.hid KWS; have HJ0 := Lib.hid hj0; have HOL := Lib.hid hol
              clear KW ho hO2 hjn hI hq hB hIA hBA hqA hql hbox hWA hj0 hol hlt2 hj hts
              go_wp2_with fail
              go_quiet (fail)
              go_wp2_with (go_at_call 53; refine (KWS.out _ (below_drewN (Below.refl _ _) _)).mono ?_; rintro e w6 ⟨rfl, ha6, hb6⟩; refine Hid.out ?_)
              have hlen6 := Tryd.Builder_Len W0.heap.size W0.heap.size _ w6 (Or.inr ha6)
              rw [Lib.byteCells_length] at hlen6
              have KL6 := Lib.hid hlen6; have HA6 := Lib.hid ha6; have HB6 := Lib.hid hb6
              clear hlen6 ha6 hb6
              by_cases hbig : 65536 < O2.length
              · have t6 : (65536 : Int) < (O2.length : Int) := by omega
                rw [if_pos hbig] at hst
                have hG3 : G = (⟨#[]⟩, 13) := by rw [HG2.out, hst]
                have HG3 := Lib.hid hG3; have HBG := Lib.hid hbig
                clear hG3 hst hbig
                refine Lib.hid ?_
                go_wp2_with (go_at_call 54; refine KL6.out.mono ?_; rintro e w7 ⟨rfl, h⟩; subst h; refine Hid.out ?_)
                refine Lib.hid ?_
                go_wp2
                refine bodyPost_ret (by simp [results, Tryd.results23, go_sem]; rfl) rfl ?_
                rw [HG3.out]
                exact ⟨rfl, HB6.out.1⟩
              · have t6 : decide ((65536 : Int) < (O2.length : Int)) = false := by rw [decide_eq_false_iff_not]; omega
                rw [if_neg hbig] at hst
                have HST := Lib.hid hst; have HBG := Lib.hid hbig
                clear hst hbig
                refine Lib.hid ?_
                go_wp2_with (go_at_call 54; refine KL6.out.mono ?_; rintro e w7 ⟨rfl, h⟩; subst h; refine Hid.out ?_)
                refine Lib.hid ?_
                go_wp2
                go_roundw
                case rel => exact ⟨j + 1, O2, by have := HJ.out; omega, congrArg (Value.int .i64) (ej.trans (Int.natCast_add j 1).symm), HST.out.symm, Nat.le_of_not_lt HBG.out, Or.inr HA6.out, HB6.out.2, HB6.out.1⟩
                case measure => have := HJ.out; rw [ej]; show m + 1 - ((j : Int) + 1).toNat < m + 1 - ((j : Int)).toNat; omega
            · obtain ⟨i, hi⟩ : ∃ i, j = i + 1 := ⟨j - 1, by omega⟩
              have gp : decide ((0 : Int) < (j : Int)) = true := by rw [decide_eq_true_iff]; omega
              have gp2 : decide (0 < j) = true := by rw [decide_eq_true_iff]; omega
              have ei : wrap64 ((j : Int) - 1) = (i : Int) := by have q1 := HNN.out; have q2 := HM.out; unfold wrap64; omega
              have gi0 : (0 : Int) ≤ (i : Int) := by omega
              have gi1 : (i : Int) < (m : Int) + 1 := by omega
              have dp1 := (HAT.out i (by rw [HM.out]; omega) _ hBA).2.1
              have hpv : pvT l j = some (bytes (tkD l i).t) := by unfold pvT; rw [if_neg hj0, show j - 1 = i by omega]
              have hti := HZZ.out i (by rw [HM.out]; omega)
              have AP : ∀ W, Below w.heap.size w W → Calls Tryd.prog 51 #[.string (tkD l i).t, .string (tkD l j).t] W fun e w' => e = .returned (.bool (apB (bytes (tkD l i).t) (bytes (tkD l j).t))) ∧ w' = W := fun W hW => areApart_any _ _ hti hts W (HT.out W hW)
              obtain ⟨ap, hap⟩ : ∃ ap, apB (bytes (tkD l i).t) (bytes (tkD l j).t) = ap := ⟨_, rfl⟩
              have hos : outS (pvT l j) out (bytes (tkD l j).t) = if ap = true then out else out ++ [32] := by rw [hpv, ← hap]; rfl
              rw [hos] at hst
              rw [hap] at AP
              clear hos hap
              generalize (tkD l i).t = ti at *
              have hbne : wr.heap.size ≠ W0.heap.size := by omega
              cases ap
              · rw [show (if (false : Bool) = true then out else out ++ [32]) = out ++ [32] from if_neg (by simp)] at hst
                have KWB : ∀ W, Below (wr.alloc (Obj.cells #[.int .i64 (tkD l j).k, .string (tkD l j).t, .int .i64 (tkD l j).a] 49)).heap.size (wr.alloc (Obj.cells #[.int .i64 (tkD l j).k, .string (tkD l j).t, .int .i64 (tkD l j).a] 49)) W → Calls Tryd.prog 52 #[.pointer (some ⟨W0.heap.size, 0, none⟩), .int .u8 32] W fun e w' => e = .returned .nilIface ∧ IsB W0.heap.size W0.heap.size (Lib.byteCells (out ++ [32])) w' ∧ W0.heap.size < w'.heap.size ∧ Below w.heap.size w w' ∧ w'.cell? ⟨wr.heap.size, 1, none⟩ = some (.string (tkD l j).t) := fun W hW => by
                  refine (wrByte_any W0.heap.size W0.heap.size (Lib.byteCells out) 32 W (isB_keep hIA hW) (by rw [Lib.byteCells_length]; omega) (Nat.le_of_lt (Nat.lt_of_lt_of_le hqA hW.size))).mono ?_
                  rintro e w' ⟨h1, h2, h3, h4⟩
                  have hbw : W.heap[wr.heap.size]? = some (.cells #[.int .i64 (tkD l j).k, .string (tkD l j).t, .int .i64 (tkD l j).a] 49 (0, 0)) := by rw [hW.block wr.heap.size (by simp)]; exact hbox
                  have hb5 := box_kept hbw hbne h4
                  refine ⟨h1, Or.inr ?_, Nat.lt_of_lt_of_le (Nat.lt_of_lt_of_le hqA hW.size) h3.size, (Below.chain hBA hW).trans (h3.mono HBR.out.size), by rw [Lib.cell_of_heap hb5]; rfl⟩
                  rw [Lib.byteCells_append]
                  exact h2
                have KWS2 := KW (out ++ [32]) (by simp; omega)
                generalize hO2 : (out ++ [32]) ++ bytes (tkD l j).t = O2 at *
                generalize tkD l j = T at *
                obtain ⟨tk, tt, ta⟩ := T
                have KWS2 := Lib.hid KWS2; have KWB := Lib.hid KWB; have HJ0 := Lib.hid hj0; have HOL := Lib.hid hol; have KAP := Lib.hid AP; have HBA := Lib.hid hBA; have HI := Lib.hid hi
                clear KW hO2 hjn hI hq hB hIA hBA hqA hql hbox hWA hj0 hol hlt2 hj hts AP hti hpv hbne hi
                go_wp2_with fail
                go_quiet (first | (go_at_call 51; refine Calls.quiet_of_same (KAP.out _ (by first | exact HBA.out | exact below_drewN HBA.out _))))
                go_wp2_with (go_at_call 52; refine (KWB.out _ (below_drewN (Below.refl _ _) _)).mono ?_; rintro e w5 ⟨rfl, hi5, hq5, hb5, hc5⟩; refine Hid.out ?_)
                have HI5 := Lib.hid hi5; have HQ5 := Lib.hid hq5; have HB5 := Lib.hid hb5
                clear hi5 hq5 hb5
                refine Lib.hid ?_
                go_wp2_with (go_at_call 53; refine (KWS2.out _ HI5.out HQ5.out HB5.out).mono ?_; rintro e w6 ⟨rfl, ha6, hb6⟩; refine Hid.out ?_)
                have hlen6 := Tryd.Builder_Len W0.heap.size W0.heap.size _ w6 (Or.inr ha6)
                rw [Lib.byteCells_length] at hlen6
                have KL6 := Lib.hid hlen6; have HA6 := Lib.hid ha6; have HB6 := Lib.hid hb6
                clear hlen6 ha6 hb6
                by_cases hbig : 65536 < O2.length
                · have t6 : (65536 : Int) < (O2.length : Int) := by omega
                  rw [if_pos hbig] at hst
                  have hG3 : G = (⟨#[]⟩, 13) := by rw [HG2.out, hst]
                  have HG3 := Lib.hid hG3; have HBG := Lib.hid hbig
                  clear hG3 hst hbig
                  refine Lib.hid ?_
                  go_wp2_with (go_at_call 54; refine KL6.out.mono ?_; rintro e w7 ⟨rfl, h⟩; subst h; refine Hid.out ?_)
                  refine Lib.hid ?_
                  go_wp2
                  refine bodyPost_ret (by simp [results, Tryd.results23, go_sem]; rfl) rfl ?_
                  rw [HG3.out]
                  exact ⟨rfl, HB6.out.1⟩
                · have t6 : decide ((65536 : Int) < (O2.length : Int)) = false := by rw [decide_eq_false_iff_not]; omega
                  rw [if_neg hbig] at hst
                  have HST := Lib.hid hst; have HBG := Lib.hid hbig
                  clear hst hbig
                  refine Lib.hid ?_
                  go_wp2_with (go_at_call 54; refine KL6.out.mono ?_; rintro e w7 ⟨rfl, h⟩; subst h; refine Hid.out ?_)
                  refine Lib.hid ?_
                  go_wp2
                  go_roundw
                  case rel => exact ⟨j + 1, O2, by have := HJ.out; omega, congrArg (Value.int .i64) (ej.trans (Int.natCast_add j 1).symm), HST.out.symm, Nat.le_of_not_lt HBG.out, Or.inr HA6.out, HB6.out.2, HB6.out.1⟩
                  case measure => have := HJ.out; rw [ej]; show m + 1 - ((j : Int) + 1).toNat < m + 1 - ((j : Int)).toNat; omega
              · rw [show (if (true : Bool) = true then out else out ++ [32]) = out from if_pos rfl] at hst
                have KWS : ∀ W, Below (wr.alloc (Obj.cells #[.int .i64 (tkD l j).k, .string (tkD l j).t, .int .i64 (tkD l j).a] 49)).heap.size (wr.alloc (Obj.cells #[.int .i64 (tkD l j).k, .string (tkD l j).t, .int .i64 (tkD l j).a] 49)) W → _ := fun W hW => KW out (by omega) W (isB_keep hIA hW) (Nat.lt_of_lt_of_le hqA hW.size) (Below.chain hBA hW)
                generalize hO2 : out ++ bytes (tkD l j).t = O2 at *
                generalize tkD l j = T at *
                obtain ⟨tk, tt, ta⟩ := T
                have KWS := Lib.hid KWS; have HJ0 := Lib.hid hj0; have HOL := Lib.hid hol; have KAP := Lib.hid AP; have HBA := Lib.hid hBA; have HI := Lib.hid hi
                clear KW hO2 hjn hI hq hB hIA hBA hqA hql hbox hWA hj0 hol hlt2 hj hts AP hti hpv hbne hi
                go_wp2_with fail
                go_quiet (first | (go_at_call 51; refine Calls.quiet_of_same (KAP.out _ (by first | exact HBA.out | exact below_drewN HBA.out _))))
                go_wp2_with (go_at_call 53; refine (KWS.out _ (below_drewN (Below.refl _ _) _)).mono ?_; rintro e w6 ⟨rfl, ha6, hb6⟩; refine Hid.out ?_)
                have hlen6 := Tryd.Builder_Len W0.heap.size W0.heap.size _ w6 (Or.inr ha6)
                rw [Lib.byteCells_length] at hlen6
                have KL6 := Lib.hid hlen6; have HA6 := Lib.hid ha6; have HB6 := Lib.hid hb6
                clear hlen6 ha6 hb6
                by_cases hbig : 65536 < O2.length
                · have t6 : (65536 : Int) < (O2.length : Int) := by omega
                  rw [if_pos hbig] at hst
                  have hG3 : G = (⟨#[]⟩, 13) := by rw [HG2.out, hst]
                  have HG3 := Lib.hid hG3; have HBG := Lib.hid hbig
                  clear hG3 hst hbig
                  refine Lib.hid ?_
                  go_wp2_with (go_at_call 54; refine KL6.out.mono ?_; rintro e w7 ⟨rfl, h⟩; subst h; refine Hid.out ?_)
                  refine Lib.hid ?_
                  go_wp2
                  refine bodyPost_ret (by simp [results, Tryd.results23, go_sem]; rfl) rfl ?_
                  rw [HG3.out]
                  exact ⟨rfl, HB6.out.1⟩
                · have t6 : decide ((65536 : Int) < (O2.length : Int)) = false := by rw [decide_eq_false_iff_not]; omega
                  rw [if_neg hbig] at hst
                  have HST := Lib.hid hst; have HBG := Lib.hid hbig
                  clear hst hbig
                  refine Lib.hid ?_
                  go_wp2_with (go_at_call 54; refine KL6.out.mono ?_; rintro e w7 ⟨rfl, h⟩; subst h; refine Hid.out ?_)
                  refine Lib.hid ?_
                  go_wp2
                  go_roundw
                  case rel => exact ⟨j + 1, O2, by have := HJ.out; omega, congrArg (Value.int .i64) (ej.trans (Int.natCast_add j 1).symm), HST.out.symm, Nat.le_of_not_lt HBG.out, Or.inr HA6.out, HB6.out.2, HB6.out.1⟩
                  case measure => have := HJ.out; rw [ej]; show m + 1 - ((j : Int) + 1).toNat < m + 1 - ((j : Int)).toNat; omega
          · obtain rfl : j = m + 1 := by omega
            have hz : l.drop (m + 1) = [] := List.drop_eq_nil_of_le (by rw [HM.out]; omega)
            rw [hz] at hjn
            have hG3 : G = (str out, 0) := by
              rw [HG2.out, ← hjn]; rfl
            have hS := Tryd.Builder_String_any W0.heap.size W0.heap.size out wr hI (by omega)
            have KST := Lib.hid hS; have HG3 := Lib.hid hG3; have HB2 := Lib.hid hB; have HBW := Lib.hid HBR.out.size
            clear hI hB hG3 hz hjn hS hol hj hlt2
            have ge3 : decide (((m + 1 : Nat) : Int) < (m : Int) + 1) = false := ge
            go_wp2_with (go_at_call 55; refine KST.out.mono ?_; rintro e w5 ⟨rfl, hb5⟩; refine Hid.out ?_)
            have hB5 := Below.trans HB2.out (hb5.mono HBW.out)
            have HB5 := Lib.hid hB5; clear hB5 hb5
            refine Lib.hid ?_
            go_wp2
            refine bodyPost_ret (by simp [results, Tryd.results23, go_sem]; rfl) rfl ?_
            rw [HG3.out]
            exact ⟨rfl, HB5.out⟩
  · rw [if_neg h3]
    have b3 : (k == 3) = false := by rw [beq_eq_false_iff_ne]; exact h3
    have b4 : (k != 3) = true := by rw [bne_iff_ne]; exact h3
    have H3 := Lib.hid h3
    clear hr hz hv hn ht h0 hcell hlen hat hlast h3 hR hzz hk
    go_enter Tryd.func23, Tryd.ntmps23
    go_wp2
    refine bodyPost_ret (by simp [results, Tryd.results23, go_sem]; rfl) rfl ?_
    exact ⟨rfl, Below.refl _ _⟩
end Go.Proofs.YtmogmneaomndeaaDoor
