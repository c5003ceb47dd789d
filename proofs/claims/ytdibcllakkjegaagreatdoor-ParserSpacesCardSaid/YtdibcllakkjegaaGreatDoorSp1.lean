import Derived.Test.YtdibcllakkjegaaGreatDoorCut4
import Derived.Test.YtdibcllakkjegaaGreatDoorCut3
import Derived.Lib.Builder
import Derived.Lib.AppendStr
import Derived.Lib.UnsafeStr
import Derived.Laws.Externs
import Derived.Deep.AppendLies
import Derived.Lib.OthersKept
import Derived.Lib.OwnKind
import Derived.WalkMore
import Derived.Test.YtdibcllakkjegaaGreatDoorShelfP
import Derived.BigQuiet
import Derived.Deep.QuietTactic
import Derived.Test.YtdibcllakkjegaaGreatDoorCut6
import Derived.Test.YtdibcllakkjegaaGreatDoorCut5
import Derived.Test.YtdibcllakkjegaaGreatDoorCut32
import Derived.Test.YtdibcllakkjegaaGreatDoorCut29
import Derived.Shelf.Strings.Builder1
import Derived.Shelf.Strings.Builder2
import Derived.Shelf.Strings.BuilderF
import Derived.Shelf.Strings.BuilderK
import Derived.Shelf.Strings.Builder2Cap
import Derived.Test.YtdibcllakkjegaaGreatDoorCut1

set_option linter.unusedVariables false
/-
  strings.Builder over this program: copyCheck, WriteByte, WriteString (the shelf's layings do not fit it: a type that only the refused place names).
-/
set_option linter.unusedSimpArgs false
set_option linter.unusedVariables false
namespace Go.Proofs.YtdibcllakkjegaaGreatDoor
open Go Go.Proofs Go.RowKit

theorem bldSize : (Tryz.prog.info? 45).map (·.size) = some 2 := by kernel_rfl
theorem bldLies : liesAt Tryz.prog Tryz.prog.depth 45 (2 / Tryz.prog.cellsOf 45) 0 45 1 = true := by kernel_rfl
theorem bldByte : (Tryz.prog.info? 5).map (fun i => (i.zero, i.size, i.bytes)) = some (some (.int .u8 0), 1, 1) := by kernel_rfl
abbrev IsB (B b : Nat) (l : List Value) (w : World) : Prop := Lib.IsBuilder 45 5 B b l w
abbrev AtB (B b : Nat) (l : List Value) (w : World) : Prop := Lib.BuilderAt 45 5 B b (.pointer (some ⟨b, 0, none⟩)) l w

set_option maxRecDepth 20000 in
theorem ccUsed (b : Nat) (w : World) (h : w.cell? ⟨b, 0, none⟩ = some (.pointer (some ⟨b, 0, none⟩))) :
    Calls Tryz.prog 45 #[.pointer (some ⟨b, 0, none⟩)] w fun e w' => e = .returned (.tuple #[]) ∧ w' = w := by
  obtain ⟨j, hj, -⟩ := Option.map_eq_some_iff.1 bldSize
  go_enter Tryz.func45, Tryz.ntmps45
  go_wp2
  rw [Lib.run_neq_ptr_same w ⟨b, 0, none⟩ Tryz.underlying42 hj]
  go_wp2
  go_end0
  exact ⟨rfl, rfl⟩

set_option maxRecDepth 20000 in
theorem ccFresh (b : Nat) (w : World) (h : w.cell? ⟨b, 0, none⟩ = some (.pointer none)) (hsh : w.shape? b = some (45, 2)) (hf : w.frozen? ⟨b, 0, none⟩ = false) :
    Calls Tryz.prog 45 #[.pointer (some ⟨b, 0, none⟩)] w fun e w' => e = .returned (.tuple #[]) ∧ w' = w.setCell ⟨b, 0, none⟩ (.pointer (some ⟨b, 0, none⟩)) := by
  obtain ⟨j, hj, hs2⟩ := Option.map_eq_some_iff.1 bldSize
  have hj0 : j.size ≠ 0 := by rw [hs2]; decide
  have KS := Lib.hid hs2; have KJ := Lib.hid hj0
  clear hs2 hj0
  go_enter Tryz.func45, Tryz.ntmps45
  go_wp2
  rw [Lib.run_to_unsafe w ⟨b, 0, none⟩ Tryz.underlying42 Tryz.underlying102 hj KJ.out hsh (Nat.zero_lt_succ 1)]
  simp only [Result.andThen]
  rw [Oper.upon_value]
  go_wp2
  rw [run_callFunc_extern Tryz.func83 (by kernel_rfl) (by kernel_rfl) (by kernel_rfl) (e := Extern.AbiNoEscape.same) (by kernel_rfl)]
  rw [Lib.run_noEscape]
  simp only [Result.andThen]
  rw [Oper.upon_value]
  go_wp2
  rw [Lib.run_from_unsafe w ⟨b, 0, none⟩ Tryz.underlying102 Tryz.underlying42 hj hsh bldLies]
  simp only [Result.andThen]
  rw [Oper.upon_value]
  go_wp2
  go_end0
  exact ⟨rfl, rfl⟩
theorem cc_any (B b : Nat) (l : List Value) (w : World) (h : IsB B b l w) :
    Calls Tryz.prog 45 #[.pointer (some ⟨b, 0, none⟩)] w fun e w' => e = .returned (.tuple #[]) ∧ AtB B b l w' ∧ Below B w w' ∧ Lib.OthersKept 5 (some b) w w' := by
  rcases h with h | h
  · refine (ccFresh b w h.cell0 h.shape h.frozen0).mono ?_
    rintro e w' ⟨rfl, rfl⟩
    exact ⟨rfl, h.used _, (Below.refl B w).setCell (p := ⟨b, 0, none⟩) h.1 _, (Lib.OthersKept.refl 5 (some b) w).setCell ⟨b, 0, none⟩ rfl _⟩
  · refine (ccUsed b w h.cell0).mono ?_
    rintro e w' ⟨rfl, rfl⟩
    exact ⟨rfl, h, Below.refl B _, Lib.OthersKept.refl _ _ _⟩

set_option maxHeartbeats 400000 in
theorem wrString_any (B b : Nat) (l : List Value) (s : ByteArray) (w : World) (h : IsB B b l w) (hl : l.length ≤ 10000000) (hs : s.size ≤ 10000000) (hB : B ≤ w.heap.size) :
    Calls Tryz.prog 21 #[.pointer (some ⟨b, 0, none⟩), .string s] w fun e w' => e = .returned (.tuple #[.int .i64 (s.size : Nat), .nilIface]) ∧ AtB B b (l ++ Lib.strCells s) w' ∧ Below B w w' ∧ Lib.OthersKept 5 (some b) w w' := by
  have CC := cc_any B b l w h
  have KC := Lib.hid CC; have HL := Lib.hid hl; have HB := Lib.hid hB; have HS := Lib.hid hs
  clear CC h hl hB hs
  obtain ⟨i0, hi, hz0, hz1, hz2⟩ := info_parts bldByte
  go_enter Tryz.func21, Tryz.ntmps21
  go_wp2_with (go_at_call 45; refine KC.out.mono ?_; rintro e w1 ⟨rfl, h1, hb1, hk1⟩; refine Hid.out ?_)
  obtain ⟨hB, v, hbk, hown, hne⟩ := h1
  have hlt : b < w1.heap.size := (Array.getElem?_eq_some_iff.1 hbk).1
  have c1 : w1.cell? ⟨b, 1, none⟩ = some v := by rw [Lib.cell_of_heap hbk]; rfl
  have hzz : B ≤ w1.heap.size := Nat.le_trans HB.out hb1.size
  have hov : ∀ k, Value.ownBlock _ = some k → B ≤ k := fun k hk => (hown.lt k hk).1
  have HA := Lib.hid hb1; have HZZ := Lib.hid hzz; have HOA := Lib.hid hown; have HKA := Lib.hid hbk; have HNE := Lib.hid hne; have HBB := Lib.hid hB; have HLT := Lib.hid hlt
  have hkd := fun k hk => Lib.ownsRow_kind hown k hk
  have HOV := Lib.hid hov; have HKK := Lib.hid hk1; have HKD := Lib.hid hkd
  clear hzz hne hB hb1 hbk hown hlt hov hk1 hkd
  refine Lib.hid ?_
  go_wp2_with (first | (at_builtin; refine Lib.wpList_append_own_string _ rfl (.tmp 12) (.tmp 13) 43 9 rfl B 5 i0 Tryz.underlying43 Tryz.underlying9 hi hz0 hz1 hz2 v l.length l (by simp [Act.eval, Act.put]) HOA.out s (by simp [Act.eval, Act.put]) (by have := HL.out; have := HS.out; unfold maxLen; omega) (by have := HL.out; have := HS.out; omega) HZZ.out ?_; intro v2 w2 ho2 hg2 hnil2; refine Hid.out ?_) | fail)
  have hk2 : w2.heap[b]? = some (.cells #[.pointer (some ⟨b, 0, none⟩), v] 45 (0, 0)) := by
    rw [hg2.block b HLT.out (fun e => HNE.out e.symm)]; exact HKA.out
  have d1 : w2.cell? ⟨b, 1, none⟩ = some v := by rw [Lib.cell_of_heap hk2]; rfl
  have f1 : w2.frozen? ⟨b, 1, none⟩ = false := Lib.frozen_of_heap hk2 1
  have hb2 := (HA.out.grown hg2 HZZ.out HOV.out).setCell (p := ⟨b, 1, none⟩) HBB.out v2
  have hp := Lib.BuilderAt.put (T := 45) (e := 5) HBB.out hk2 (bs' := l ++ Lib.strCells s) (by simpa [Lib.strCells_length] using ho2) (by decide)
  obtain ⟨ao, n2, cap2, rfl⟩ : ∃ ao n cap, v2 = .slice ao n cap := by
    rcases ho2.2 with ⟨e, -⟩ | ⟨g, cap, cur, e, -⟩
    · exact ⟨_, _, _, e⟩
    · exact ⟨_, _, _, e⟩
  have hq2 := (HKK.out.grown hg2 HKD.out).setCell ⟨b, 1, none⟩ rfl (.slice ao n2 cap2)
  have HB2 := Lib.hid hb2; have HP := Lib.hid hp; have HQ2 := Lib.hid hq2
  clear hb2 hp ho2 hg2 hnil2 hk2 hq2
  refine Lib.hid ?_
  go_wp2
  refine bodyPost_ret (by simp [results, Tryz.results21, go_sem]; rfl) rfl ?_
  exact ⟨rfl, HP.out, HB2.out, HQ2.out⟩
end Go.Proofs.YtdibcllakkjegaaGreatDoor

/-
  lexer.Join.
-/
set_option linter.unusedSimpArgs false
set_option linter.unusedVariables false
namespace Go.Proofs.YtdibcllakkjegaaGreatDoor
open Go Go.Proofs Go.RowKit

theorem tkD_mem {l : List Tk} {j : Nat} (h : j < l.length) : tkD l j ∈ l := by rw [tkD_eq h]; exact List.getElem_mem h
theorem isB_keep {B b : Nat} {l : List Value} {W W' : World} (h : IsB B b l W) (hb : Below W.heap.size W W') : IsB B b l W' := by
  have key : ∀ p, Lib.BuilderAt 45 5 B b p l W → Lib.BuilderAt 45 5 B b p l W' := by
    rintro p ⟨h1, v, h2, h3, h4⟩
    refine ⟨h1, v, ?_, ?_, h4⟩
    · rw [hb.block b (Array.getElem?_eq_some_iff.1 h2).1]; exact h2
    · obtain ⟨q1, q2⟩ := h3
      refine ⟨q1, q2.imp_right fun ⟨g, cap, cur, e, hg, hgg, r⟩ => ⟨g, cap, cur, e, hg, ?_, r⟩⟩
      rw [hb.block g (Array.getElem?_eq_some_iff.1 hgg).1]; exact hgg
  exact h.imp (key _) (key _)
end Go.Proofs.YtdibcllakkjegaaGreatDoor

/-
  Mathematics of tokens: texts, tokens behind each other, comments, lines, joined texts.
-/
set_option linter.unusedVariables false
namespace Go.Proofs.YtdibcllakkjegaaGreatDoor
open Go Go.Proofs Go.RowKit

theorem tn_stop {x : List UInt8} (hx : x ≠ []) (h : tn x = x.length) {c : UInt8} (hw : wdB c.toNat = false) (h61 : c ≠ 61) (m : List UInt8) : tn (x ++ c :: m) = x.length := by
  unfold tn at *
  rw [wl_stop hw, sl_stop h61 m hx]
  exact h
theorem sk_none {l : List UInt8} (h1 : hc l ≠ 1) (h2 : hc l ≠ 2) : skM false l = 0 := by
  cases l with
  | nil => rfl
  | cons c l => rw [hc_cons] at h1 h2; rw [skM, if_neg h1, if_neg h2]
theorem tok_hc {x : List UInt8} (hx : x ≠ []) (h : ter x = 0) : hc x ≠ 1 ∧ hc x ≠ 2 := by
  unfold ter at h
  by_cases h3 : hc x = 3
  · omega
  · rw [if_neg h3] at h
    by_cases h4 : hc x = 4
    · omega
    · rw [if_neg h4] at h
      split at h
      · cases h
      · rename_i hs
        unfold sl at hs
        split at hs
        · rename_i hs2
          have := cls_sign2 hs2.2
          omega
        · split at hs
          · rename_i h5
            have : hc x = 5 := h5.2
            omega
          · exact absurd rfl hs

theorem sq_tok {f a k : Nat} {l x z : List UInt8} (hk : skM false l = k) (hm : l.drop k = x ++ z) (hx : x ≠ []) (ht : tn (x ++ z) = x.length) (he : ter x = 0) :
    sq (f + 1) a l = ((tkd x, x, a + k) :: (sq f (a + k + x.length) z).1, (sq f (a + k + x.length) z).2) := by
  have hne : x ++ z ≠ [] := fun q => hx (List.append_eq_nil_iff.1 q).1
  obtain ⟨h1, h2⟩ := ter_app hx ht
  rw [sq, hk, hm, if_neg hne, h1, if_pos he, ht, h2, List.take_left' rfl, List.drop_left' rfl]
end Go.Proofs.YtdibcllakkjegaaGreatDoor

/-
  What the entries answer of tokens that are equal up to offsets.
-/
set_option linter.unusedSimpArgs false
set_option linter.unusedVariables false
namespace Go.Proofs.YtdibcllakkjegaaGreatDoor
open Go Go.Proofs Go.RowKit

theorem bare_head : ∀ {x y : List Syn} (z : Syn), bareL x = bareL y → bareS (x.headD z) = bareS (y.headD z)
  | [], [], _, _ => rfl
  | [], y :: ys, _, h => by rw [bareL, bareL] at h; cases h
  | x :: xs, [], _, h => by rw [bareL, bareL] at h; cases h
  | x :: xs, y :: ys, _, h => by
    rw [bareL, bareL, List.cons.injEq] at h
    exact h.1
/-- Comments, blanks and offsets do not matter: the same tokens give the same tree up to offsets. -/
theorem pTk_sim {k : Nat} {l m : List Tk} {x : Syn} (hs : Sim l m) (h : pTk k l = .ok x) : ∃ y, pTk k m = .ok y ∧ bareS x = bareS y := by
  obtain ⟨f, xs, r, h1, h2, rfl⟩ := pTk_ok h
  have g := pRead_sim f (entW k l) (entW k m) 0 l m (by unfold entW; split <;> first | exact trivial | exact rfl) hs
  rw [h1] at g
  cases hm : pRead f (entW k m) 0 m with
  | error p => rw [hm] at g; cases g
  | ok q =>
    obtain ⟨ys, r2⟩ := q
    rw [hm] at g
    obtain ⟨g1, g2⟩ := (g : RL _ _)
    refine ⟨_, pTk_of hm (by rw [← g2.is]; exact h2), ?_⟩
    unfold entT
    split
    · simp only [bareS, g1]
    · exact bare_head _ g1
end Go.Proofs.YtdibcllakkjegaaGreatDoor

/-
  Tokens of built texts, without their offsets.
-/
set_option linter.unusedSimpArgs false
set_option linter.unusedVariables false
namespace Go.Proofs.YtdibcllakkjegaaGreatDoor
open Go Go.Proofs Go.RowKit

theorem B_of {f a : Nat} {l : List UInt8} (h : l.length < f) : B l = if (sq f a l).2.2 = 0 then some ((sq f a l).1.map nk) else none := by
  have e := (sq_shift a f 0 l h).1
  rw [Nat.zero_add, sq_fuel f (l.length + 1) 0 l h (Nat.lt_succ_self _)] at e
  unfold B sqR
  rw [e, List.map_map]
  rfl
theorem B_gap {g : List UInt8} (hg : ∀ z, skM false (g ++ z) = g.length + skM false z) (z : List UInt8) : B (g ++ z) = B z := by
  have hd : (g ++ z).drop (g.length + skM false z) = z.drop (skM false z) := by rw [← List.drop_drop, List.drop_left]
  have e : sq ((g ++ z).length + 1) 0 (g ++ z) = sq ((g ++ z).length + 1) (0 + g.length) z := by
    rw [sq, sq, hg, hd]
    simp only [Nat.zero_add]
  rw [B_of (f := (g ++ z).length + 1) (a := 0) (Nat.lt_succ_self _), e, ← B_of (by rw [List.length_append]; omega)]
theorem B_tok' {x z : List UInt8} (hx : okX x) (ht : tn (x ++ z) = x.length) : B (x ++ z) = (B z).map ((tkd x, x) :: ·) := by
  obtain ⟨h1, h2, h3⟩ := hx
  have hh := hc_app h1 z
  have hq := tok_hc h1 h2
  have hk : skM false (x ++ z) = 0 := sk_none (by rw [hh]; exact hq.1) (by rw [hh]; exact hq.2)
  have e := sq_tok (f := (x ++ z).length) (a := 0) hk (List.drop_zero ..) h1 ht h2
  have hlen : z.length < (x ++ z).length := by rw [List.length_append]; have := List.length_pos_iff.2 h1; omega
  rw [B_of (f := (x ++ z).length + 1) (a := 0) (Nat.lt_succ_self _), e, B_of (l := z) (a := 0 + 0 + x.length) hlen]
  dsimp only
  split <;> rfl
theorem B_tok {x : List UInt8} (hx : okX x) {c : UInt8} (hw : wdB c.toNat = false) (h61 : c ≠ 61) (m : List UInt8) : B (x ++ c :: m) = (B (c :: m)).map ((tkd x, x) :: ·) := B_tok' hx (tn_stop hx.1 hx.2.2 hw h61 m)
abbrev nt (t : Tk) : Int × List UInt8 := (t.k, bytes t.t)
theorem nt_toTk (t : Int × List UInt8 × Nat) : nt (toTk t) = nk t := by show (t.1, bytes (str t.2.1)) = _; rw [bytes_str]
theorem scR_B {s : ByteArray} (h : s.size ≤ 65536) {L : List (Int × List UInt8)} (hB : B (bytes s) = some L) : (scR s).2.2 = 0 ∧ (scR s).1.map nt = L := by
  unfold B at hB
  by_cases q : (sqR (bytes s)).2.2 = 0
  · rw [if_pos q] at hB
    rw [scR_sq h, if_pos q]
    refine ⟨q, ?_⟩
    rw [← Option.some.inj hB, List.map_map]
    exact List.map_congr_left fun t _ => nt_toTk t
  · rw [if_neg q] at hB; cases hB
theorem sim_of : ∀ {l m : List Tk}, l.map nt = m.map nt → Sim l m
  | [], [], _ => trivial
  | [], _ :: _, h => by cases h
  | _ :: _, [], h => by cases h
  | t :: l, u :: m, h => by
    rw [List.map_cons, List.map_cons, List.cons.injEq, Prod.mk.injEq] at h
    exact ⟨⟨h.1.1, by rw [← str_bytes t.t, h.1.2, str_bytes]⟩, sim_of h.2⟩
end Go.Proofs.YtdibcllakkjegaaGreatDoor

/-
  parser: mathematics of the laws ParserSpaces, ParserJoins, ParserParens, ParserHolds.
-/
set_option linter.unusedSimpArgs false
set_option linter.unusedVariables false
namespace Go.Proofs.YtdibcllakkjegaaGreatDoor
open Go Go.Proofs Go.RowKit

/-- An entry reads a text whose tokens are those of a list, up to offsets. -/
theorem pAns_list {k : Nat} {s : ByteArray} {L : List Tk} {x : Syn} (hz : s.size ≤ 65536) (hB : B (bytes s) = some (L.map nt)) (h : pTk k L = .ok x) : ∃ y, pAns k s = .ok y ∧ bareS x = bareS y := by
  obtain ⟨h1, h2⟩ := scR_B hz hB
  obtain ⟨y, e1, e2⟩ := pTk_sim (sim_of h2.symm) h
  exact ⟨y, by rw [pAns_tk h1, e1], e2⟩
/-- Gaps before all tokens. -/
def spT (g : List UInt8) : List (List UInt8) → List UInt8
  | [] => []
  | x :: r => g ++ x ++ spT g r
theorem B_sp {g : List UInt8} (hg : ∀ z, skM false (g ++ z) = g.length + skM false z) (hc : ∃ c m, g = c :: m ∧ wdB c.toNat = false ∧ c ≠ 61) : ∀ X : List (List UInt8), (∀ x ∈ X, okX x) → B (spT g (X ++ [[]])) = some (X.map (fun x => (tkd x, x)) ++ [(3, [])])
  | [], _ => by
    show B (g ++ [] ++ []) = _
    rw [List.append_nil, B_gap hg]; rfl
  | x :: X, h => by
    obtain ⟨c, m, hgc, hw, h61⟩ := hc
    have ih := B_sp hg ⟨c, m, hgc, hw, h61⟩ X (fun y hy => h y (by simp [hy]))
    have hne : ∃ r, spT g (X ++ [[]]) = c :: r := by
      cases X with
      | nil => exact ⟨m ++ [] ++ [], by show g ++ [] ++ [] = _; rw [hgc]; rfl⟩
      | cons y X => exact ⟨m ++ y ++ spT g (X ++ [[]]), by show g ++ y ++ _ = _; rw [hgc]; simp⟩
    obtain ⟨r, hr⟩ := hne
    show B (g ++ x ++ spT g (X ++ [[]])) = _
    rw [List.append_assoc, B_gap hg, hr, B_tok (h x (by simp)) hw h61, ← hr, ih]
    rfl
/-- ParserSpaces. -/
theorem spaces_math {k : Nat} {s u : ByteArray} {x : Syn} {g : List UInt8} (hg : ∀ z, skM false (g ++ z) = g.length + skM false z) (hc : ∃ c m, g = c :: m ∧ wdB c.toNat = false ∧ c ≠ 61) (h : pAns k s = .ok x) (hu : bytes u = spT g ((scR s).1.map fun t => bytes t.t)) (hz : u.size ≤ 65536) : ∃ y, pAns k u = .ok y ∧ bareS x = bareS y := by
  obtain ⟨he, V, e, f, xs, hV, hok, h1, h2, -⟩ := pAns_ok h
  refine pAns_list hz (L := (scR s).1) ?_ (by rw [← pAns_tk he]; exact h)
  rw [hu, hV, List.map_append, show ([tE e].map fun t : Tk => bytes t.t) = [[]] from rfl, B_sp hg hc _ (fun y hy => by obtain ⟨t, ht, rfl⟩ := List.mem_map.1 hy; exact (hok t ht).1), List.map_map, List.map_append]
  refine congrArg some (congr (congrArg _ (List.map_congr_left fun t ht => ?_)) rfl)
  show (tkd (bytes t.t), bytes t.t) = (t.k, bytes t.t)
  rw [(hok t ht).2]
theorem gap_spaces : ∀ g ∈ [[32], [10], [9, 13, 10, 32], [32, 35, 32, 99, 59, 32, 125, 123, 32, 10], [10, 35, 10]], (∀ z, skM false (g ++ z) = g.length + skM false z) ∧ ∃ c m, g = c :: m ∧ wdB c.toNat = false ∧ c ≠ 61 := by
  have c1 : ∀ z, skM false (10 :: z) = 1 + skM false z := fun z => by rw [skF, if_pos (by decide)]
  have c2 : ∀ z, skM false (32 :: z) = 1 + skM false z := fun z => by rw [skF, if_pos (by decide)]
  have c3 : ∀ z, skM false (9 :: z) = 1 + skM false z := fun z => by rw [skF, if_pos (by decide)]
  have c4 : ∀ z, skM false (13 :: z) = 1 + skM false z := fun z => by rw [skF, if_pos (by decide)]
  have c5 : ∀ z, skM false (35 :: z) = 1 + skM true z := fun z => by rw [skF, if_neg (by decide), if_pos (by decide)]
  have c6 : ∀ z, skM true (10 :: z) = 1 + skM false z := fun z => by rw [skT, if_pos rfl]
  have c7 : ∀ (c : UInt8) z, c ≠ 10 → skM true (c :: z) = 1 + skM true z := fun c z h => by rw [skT, if_neg h]
  intro g hg
  simp only [List.mem_cons, List.not_mem_nil, or_false] at hg
  rcases hg with rfl | rfl | rfl | rfl | rfl
  · exact ⟨fun z => c2 z, 32, [], rfl, by decide, by decide⟩
  · exact ⟨fun z => c1 z, 10, [], rfl, by decide, by decide⟩
  · refine ⟨fun z => ?_, 9, [13, 10, 32], rfl, by decide, by decide⟩
    show skM false (9 :: 13 :: 10 :: 32 :: z) = 4 + _
    rw [c3, c4, c1, c2]; omega
  · refine ⟨fun z => ?_, 32, [35, 32, 99, 59, 32, 125, 123, 32, 10], rfl, by decide, by decide⟩
    show skM false (32 :: 35 :: 32 :: 99 :: 59 :: 32 :: 125 :: 123 :: 32 :: 10 :: z) = 10 + _
    rw [c2, c5, c7 _ _ (by decide), c7 _ _ (by decide), c7 _ _ (by decide), c7 _ _ (by decide), c7 _ _ (by decide), c7 _ _ (by decide), c7 _ _ (by decide), c6]; omega
  · refine ⟨fun z => ?_, 10, [35, 10], rfl, by decide, by decide⟩
    show skM false (10 :: 35 :: 10 :: z) = 3 + _
    rw [c1, c5, c6]; omega
end Go.Proofs.YtdibcllakkjegaaGreatDoor

/-
  (*strings.Builder).String of any builder.
-/
namespace Go.Proofs.YtdibcllakkjegaaGreatDoor
open Go Go.Proofs Go.RowKit Go.Shelf

def bsRen : Go.Shelf.Ren := ⟨fun | 169 => 22 | n => n, fun | 70 => 42 | 9 => 9 | 0 => 0 | 72 => 45 | 37 => 43 | 127 => 77 | 3 => 3 | 5 => 5 | n => n, fun | n => n⟩
theorem bsLays : Go.Proofs.Lays.n169 Tryz.prog bsRen := {
  mixed := by kernel_rfl
  f169 := Tryz.func22.trans (congrArg some (by kernel_rfl))
  t0 := Tryz.underlying0
  a0 := Tryz.isAgg0
  z0 := Tryz.sizeOf0
  v0 := Tryz.zeroValue0
  t3 := Tryz.underlying3
  a3 := Tryz.isAgg3
  z3 := Tryz.sizeOf3
  v3 := Tryz.zeroValue3
  t9 := Tryz.underlying9
  a9 := Tryz.isAgg9
  z9 := Tryz.sizeOf9
  v9 := Tryz.zeroValue9
  t37 := Tryz.underlying43
  a37 := Tryz.isAgg43
  z37 := Tryz.sizeOf43
  v37 := Tryz.zeroValue43
  t70 := Tryz.underlying42
  a70 := Tryz.isAgg42
  z70 := Tryz.sizeOf42
  v70 := Tryz.zeroValue42
  t72 := Tryz.underlying45
  a72 := Tryz.isAgg45
  z72 := Tryz.sizeOf45
  v72 := Tryz.zeroValue45
  t127 := Tryz.underlying77
  a127 := Tryz.isAgg77
  z127 := Tryz.sizeOf77
  v127 := Tryz.zeroValue77 }
theorem bsExtra : Builder.Extra Tryz.prog bsRen := {
  sizeBuilder := by kernel_rfl
  liesBuilder := by kernel_rfl
  t5 := Tryz.underlying5
  a5 := Tryz.isAgg5
  z5 := Tryz.sizeOf5
  v5 := Tryz.zeroValue5
  infoByte := by kernel_rfl
  cellsByte := by kernel_rfl
  sizeByte := by kernel_rfl
  neB5 := by decide }
theorem bldString_at (B b : Nat) (l : List UInt8) (w : World) (h : Lib.IsBuilder 45 5 B b (Lib.byteCells l) w) (hBw : B ≤ w.heap.size) :
    Calls Tryz.prog 22 #[.pointer (some ⟨b, 0, none⟩)] w fun e w' => e = .returned (.string ⟨l.toArray⟩) ∧ Below B w w' := Any.Builder_String_any bsLays bsExtra B b l w h hBw
end Go.Proofs.YtdibcllakkjegaaGreatDoor

/-
  The law ParserSpaces.
-/
set_option linter.unusedSimpArgs false
set_option linter.unusedVariables false
namespace Go.Proofs.YtdibcllakkjegaaGreatDoor
open Go Go.Proofs Go.RowKit Go.Sort

/-- The gaps of the law. -/
def gpL (j : Nat) : ByteArray := match j with | 0 => ⟨#[32]⟩ | 1 => ⟨#[10]⟩ | 2 => ⟨#[9, 13, 10, 32]⟩ | 3 => ⟨#[32, 35, 32, 99, 59, 32, 125, 123, 32, 10]⟩ | _ => ⟨#[10, 35, 10]⟩
theorem gp_el (j : Nat) (hj : j < 5) : ([.string ⟨#[32]⟩, .string ⟨#[10]⟩, .string ⟨#[9, 13, 10, 32]⟩, .string ⟨#[32, 35, 32, 99, 59, 32, 125, 123, 32, 10]⟩, .string ⟨#[10, 35, 10]⟩] : List Value)[j]? = some (.string (gpL j)) ∧ (#[.string ⟨#[32]⟩, .string ⟨#[10]⟩, .string ⟨#[9, 13, 10, 32]⟩, .string ⟨#[32, 35, 32, 99, 59, 32, 125, 123, 32, 10]⟩, .string ⟨#[10, 35, 10]⟩] : Array Value)[j]? = some (.string (gpL j)) ∧ ∀ h, ([.string ⟨#[32]⟩, .string ⟨#[10]⟩, .string ⟨#[9, 13, 10, 32]⟩, .string ⟨#[32, 35, 32, 99, 59, 32, 125, 123, 32, 10]⟩, .string ⟨#[10, 35, 10]⟩] : List Value)[j]'h = .string (gpL j) := by
  rcases (show j = 0 ∨ j = 1 ∨ j = 2 ∨ j = 3 ∨ j = 4 by omega) with rfl | rfl | rfl | rfl | rfl <;> exact ⟨rfl, rfl, fun _ => rfl⟩
theorem gp_mem (j : Nat) (hj : j < 5) : bytes (gpL j) ∈ [[32], [10], [9, 13, 10, 32], [32, 35, 32, 99, 59, 32, 125, 123, 32, 10], [10, 35, 10]] ∧ (gpL j).size ≤ 10 := by
  rcases (show j = 0 ∨ j = 1 ∨ j = 2 ∨ j = 3 ∨ j = 4 by omega) with rfl | rfl | rfl | rfl | rfl <;> exact ⟨by decide, by decide⟩
theorem sq_sum : ∀ (f a : Nat) (l : List UInt8), l.length < f → ((sq f a l).1.map (fun t => t.2.1.length)).sum ≤ l.length
  | 0, _, _, h => by omega
  | f + 1, a, l, h => by
    rcases sq_cases f a l with ⟨h0, h1, e⟩ | ⟨k, m, hk, hm, hne, hl, -, he, e⟩ | ⟨k, x, z, hk, hm, hx, hl, -, ht, he, -, -, e⟩
    · rw [e]; simp
    · rw [e]; simp
    · have := List.length_pos_iff.2 hx
      have ih := sq_sum f (a + k + x.length) z (by omega)
      rw [e, List.map_cons, List.sum_cons]
      show x.length + _ ≤ _
      omega
theorem spT_len (g : List UInt8) : ∀ X : List (List UInt8), (spT g X).length = X.length * g.length + (X.map List.length).sum
  | [] => by simp [spT]
  | x :: X => by
    have := spT_len g X
    show (g ++ x ++ spT g X).length = _
    rw [List.length_append, List.length_append, this, List.map_cons, List.sum_cons, List.length_cons, Nat.succ_mul]
    omega
theorem spT_app (g : List UInt8) : ∀ X Y : List (List UInt8), spT g (X ++ Y) = spT g X ++ spT g Y
  | [], Y => rfl
  | x :: X, Y => by
    show g ++ x ++ spT g (X ++ Y) = g ++ x ++ spT g X ++ spT g Y
    rw [spT_app g X Y]
    simp only [List.append_assoc]
theorem sp_size {s : ByteArray} (he : (scR s).2.2 = 0) (g : List UInt8) (hg : g.length ≤ 10) : (spT g ((scR s).1.map fun t => bytes t.t)).length ≤ 11 * s.size + 10 := by
  have hz := scan_long he
  obtain ⟨q, e, -⟩ := scR_ok hz he
  have h1 := sq_sum _ 0 (bytes s) (Nat.lt_succ_self _)
  have h2 := sq_count ((bytes s).length + 1) 0 (bytes s)
  have h3 : (sq ((bytes s).length + 1) 0 (bytes s)) = sqR (bytes s) := rfl
  rw [h3] at h1 h2
  rw [bytes_length] at h1 h2
  rw [spT_len, e, List.length_map, List.length_map, List.map_map, List.map_map]
  have h4 : ∀ M : List (Int × List UInt8 × Nat), M.map ((List.length ∘ fun t : Tk => bytes t.t) ∘ toTk) = M.map (fun t => t.2.1.length) := fun M => List.map_congr_left fun t _ => by
    show (bytes (str t.2.1)).length = _
    rw [bytes_str]
  rw [h4]
  have h5 : (sqR (bytes s)).1.length * g.length ≤ (s.size + 1) * 10 := Nat.mul_le_mul h2 hg
  omega
/-- The part of the built text that is there. -/
def spO (g : ByteArray) (L : List Tk) (j : Nat) : List UInt8 := spT (bytes g) ((L.take j).map fun t => bytes t.t)
theorem spO_step (g : ByteArray) {L : List Tk} {j : Nat} (h : j < L.length) : spO g L (j + 1) = spO g L j ++ bytes (g ++ (tkD L j).t) := by
  unfold spO
  rw [List.take_add_one, List.getElem?_eq_getElem h, Option.toList_some, ← tkD_eq h, List.map_append, spT_app, bytes_app]
  show _ ++ (bytes g ++ bytes (tkD L j).t ++ []) = _
  rw [List.append_nil]
theorem spO_le (g : ByteArray) (L : List Tk) (j : Nat) : (spO g L j).length ≤ (spT (bytes g) (L.map fun t => bytes t.t)).length := by
  unfold spO
  have : L.map (fun t => bytes t.t) = (L.take j).map (fun t => bytes t.t) ++ (L.drop j).map (fun t => bytes t.t) := by rw [← List.map_append, List.take_append_drop]
  rw [this, spT_app, List.length_append]
  omega
set_option maxRecDepth 20000 in
set_option maxHeartbeats 4000000 in
theorem lsp_big (s : ByteArray) (k n : Nat) (hk : k < 256) (hn : n < 256) (g1 : decide ((1000 : Int) < (s.size : Int)) = true) (w : World) (h : Env w) :
    Calls Tryz.prog 6 #[.string s, .int .u8 (k : Int), .int .u8 (n : Int)] w fun e w' => e = .returned (.bool true) ∧ Below w.heap.size w w' := by
  have HE := Lib.hid h; clear h
  go_enter Tryz.func6, Tryz.ntmps6
  go_wp2_with (go_at_call 12; refine (HE.out.awake (Below.refl _ _)).mono ?_; rintro e w1 ⟨rfl, hb⟩; refine Hid.out ?_)
  have B1 := Lib.hid (Below.chain (Below.refl _ _) hb)
  clear hb
  refine Lib.hid ?_
  go_wp2
  go_ret
  exact ⟨rfl, B1.out⟩
set_option maxRecDepth 20000 in
set_option maxHeartbeats 4000000 in
theorem lsp_bad (s : ByteArray) (k n : Nat) (hk : k < 256) (hn : n < 256) (g1 : decide ((1000 : Int) < (s.size : Int)) = false) (a1 : Int) (c1 : Nat) (hp : pAns (k % 4) s = .error (a1, c1)) (w : World) (h : Env w) :
    Calls Tryz.prog 6 #[.string s, .int .u8 (k : Int), .int .u8 (n : Int)] w fun e w' => e = .returned (.bool true) ∧ Below w.heap.size w w' := by
  have CS : ∀ W, Below w.heap.size w W → Calls Tryz.prog 20 #[.string s] W fun e w' => ∃ ao c, e = .returned (.tuple #[.slice ao (scR s).1.length c, .int .i64 ((scR s).2.1 : Nat), .int .i64 ((scR s).2.2 : Nat)]) ∧ TRow w' ao c (scR s).1 ∧ Below W.heap.size W w' := fun W hW => by
    refine (scan_any s W (h.at hW).tab).mono ?_
    rintro e w' ⟨v, rfl, ho, hb⟩
    obtain ⟨ao, c, rfl, hr⟩ := TRow.of_owns ho
    exact ⟨ao, c, rfl, hr, hb⟩
  generalize (scR s).1.length = nn at CS
  generalize (scR s).2.1 = na at CS
  generalize (scR s).2.2 = ne at CS
  generalize (scR s).1 = L at CS
  have KS := Lib.hid CS; have HE := Lib.hid h; have HP := Lib.hid hp; have HK := Lib.hid hk; have HN := Lib.hid hn; clear h hp CS hk hn
  go_enter Tryz.func6, Tryz.ntmps6
  go_wp2_with (go_at_call 16; refine (ent_code HP.out (HE.out.part (Below.refl _ _) _ _ HK.out)).mono ?_; rintro e w1 ⟨hc1, rfl, hb⟩; refine Hid.out ?_)
  have hA : Below w1.heap.size w1 (w1.alloc (Obj.cells #[.int .i64 0, .int .i64 0, .string ⟨#[]⟩, .int .i64 0, .slice none 0 0] 25)) := (Below.refl _ _).alloc (Nat.le_refl _) _
  have B1 := Lib.hid (Below.chain (Below.refl _ _) (Below.chain hb hA))
  have X1_1 := Lib.hid (Bx5.new w1 (.int .i64 0) (.int .i64 0) (.string ⟨#[]⟩) (.int .i64 0) (.slice none 0 0))
  clear hA hb
  obtain ⟨te1, te1'⟩ := err_ne hc1
  refine Lib.hid ?_
  go_wp2_with (go_at_call 20; refine (KS.out _ B1.out).mono ?_; rintro e w2 ⟨ao, c, rfl, hr, hb⟩; refine Hid.out ?_)
  have B2 := Lib.hid (Below.chain B1.out hb)
  clear hr hb
  refine Lib.hid ?_
  go_wp2_with (go_at_call 12; refine (HE.out.awake B2.out).mono ?_; rintro e w3 ⟨rfl, hb⟩; refine Hid.out ?_)
  have B3 := Lib.hid (Below.chain B2.out hb)
  clear hb
  refine Lib.hid ?_
  go_wp2
  go_ret
  exact ⟨rfl, B3.out⟩
set_option maxRecDepth 20000 in
set_option maxHeartbeats 4000000 in
theorem lsp_good (s : ByteArray) (k n : Nat) (hk : k < 256) (hn : n < 256) (g1 : decide ((1000 : Int) < (s.size : Int)) = false) (x : Syn) (hp : pAns (k % 4) s = .ok x) (w : World) (h : Env w) :
    Calls Tryz.prog 6 #[.string s, .int .u8 (k : Int), .int .u8 (n : Int)] w fun e w' => e = .returned (.bool true) ∧ Below w.heap.size w w' := by
  obtain ⟨he, -⟩ := pAns_ok hp
  have CS : ∀ W, Below w.heap.size w W → Calls Tryz.prog 20 #[.string s] W fun e w' => ∃ ao c, e = .returned (.tuple #[.slice ao (scR s).1.length c, .int .i64 ((scR s).2.1 : Nat), .int .i64 ((scR s).2.2 : Nat)]) ∧ TRow w' ao c (scR s).1 ∧ Below W.heap.size W w' := fun W hW => by
    refine (scan_any s W (h.at hW).tab).mono ?_
    rintro e w' ⟨v, rfl, ho, hb⟩
    obtain ⟨ao, c, rfl, hr⟩ := TRow.of_owns ho
    exact ⟨ao, c, rfl, hr, hb⟩
  have hz : s.size ≤ 1000 := by
    rw [decide_eq_false_iff_not] at g1
    omega
  have hj : n % 5 < 5 := Nat.mod_lt _ (by decide)
  have hm : ((n : Int)).tmod 5 = ((n % 5 : Nat) : Int) := by rw [Int.tmod_eq_emod_of_nonneg (by omega)]; omega
  have hwn : wrap64 (n : Int) = (n : Int) := (wrapB _ (by omega) (by omega)).2
  obtain ⟨hsg1, hsg2, hsg3⟩ := gp_el (n % 5) hj
  obtain ⟨hmem, hgz⟩ := gp_mem (n % 5) hj
  obtain ⟨hg1, hg2⟩ := gap_spaces _ hmem
  have hsz := sp_size he (bytes (gpL (n % 5))) (by rw [bytes_length]; exact hgz)
  have hmath : ∀ u : ByteArray, bytes u = spT (bytes (gpL (n % 5))) ((scR s).1.map fun t => bytes t.t) → ∃ y, pAns (k % 4) u = .ok y ∧ bareS x = bareS y := fun u hu => spaces_math hg1 hg2 hp hu (by rw [← bytes_length, hu]; omega)
  have hnl : (scR s).1.length ≤ 1001 := by
    obtain ⟨V, e, hV, -, hl⟩ := scan_form (by omega) he
    rw [hV, List.length_append]
    show V.length + 1 ≤ 1001
    omega
  have hne : (scR s).1 ≠ [] := by
    obtain ⟨V, e, hV, -, hl⟩ := scan_form (by omega) he
    rw [hV]; simp
  have htz : ∀ t ∈ (scR s).1, t.t.size ≤ 100 := by
    obtain ⟨V, e, hV, hok, hl⟩ := scan_form (by omega) he
    intro t ht
    rw [hV] at ht
    rcases List.mem_append.1 ht with q | q
    · have := okX_len (hok t q).1
      rwa [bytes_length] at this
    · have : t = tE e := by simpa using q
      rw [this]; exact Nat.zero_le _
  have hol : ∀ j, (spO (gpL (n % 5)) (scR s).1 j).length ≤ 12000 := fun j => by have := spO_le (gpL (n % 5)) (scR s).1 j; omega
  have hst := fun j h => spO_step (gpL (n % 5)) (L := (scR s).1) (j := j) h
  have hfull : spO (gpL (n % 5)) (scR s).1 (scR s).1.length = spT (bytes (gpL (n % 5))) ((scR s).1.map fun t => bytes t.t) := by unfold spO; rw [List.take_length]
  have h0 : spO (gpL (n % 5)) (scR s).1 0 = [] := rfl
  rw [he] at CS
  generalize spO (gpL (n % 5)) (scR s).1 = O at *
  generalize gpL (n % 5) = g at *
  generalize (scR s).2.1 = na at CS
  generalize (scR s).1 = L at *
  generalize n % 5 = jj at *
  have j1 : (0 : Int) ≤ (jj : Int) := by omega
  have j2 : (jj : Int) < 5 := by omega
  obtain ⟨nn, hnn⟩ : ∃ nn, L.length = nn := ⟨_, rfl⟩
  rw [hnn] at CS hnl hfull
  have KS := Lib.hid CS; have HE := Lib.hid h; have HP := Lib.hid hp; have HK := Lib.hid hk; have HM := Lib.hid hmath; have HNL := Lib.hid hnl; have HNE := Lib.hid hne; have HTZ := Lib.hid htz; have HOL := Lib.hid hol; have HST := Lib.hid hst; have HFULL := Lib.hid hfull; have H0 := Lib.hid h0; have HGZ := Lib.hid hgz; have HNN := Lib.hid hnn
  clear h hp CS hk hn hmath hnl hne htz hol hst hfull h0 hgz he hz hmem hg1 hg2 hsz hnn hj
  go_enter Tryz.func6, Tryz.ntmps6
  go_wp2_with (go_at_call 16; refine (ent_ok HP.out (HE.out.part (Below.refl _ _) _ _ HK.out)).mono ?_; rintro e w1 ⟨k1, a1, t1, n1, o1, l1, c1, q1, hq1, rfl, hb, hx⟩; refine Hid.out ?_)
  have hA : Below w1.heap.size w1 (w1.alloc (Obj.cells #[.int .i64 k1, .int .i64 a1, .string t1, .int .i64 n1, .slice o1 l1 c1] 25)) := (Below.refl _ _).alloc (Nat.le_refl _) _
  have B1 := Lib.hid (Below.chain (Below.refl _ _) (Below.chain hb hA))
  have X1_1 := Lib.hid (Bx5.new w1 (.int .i64 k1) (.int .i64 a1) (.string t1) (.int .i64 n1) (.slice o1 l1 c1))
  have S1_1 := Lib.hid (hx.below hA)
  clear hA hb hx
  refine Lib.hid ?_
  go_wp2_with (go_at_call 20; refine (KS.out _ B1.out).mono ?_; rintro e w2 ⟨ao, c, rfl, hr, hb⟩; refine Hid.out ?_)
  have B2 := Lib.hid (Below.chain B1.out hb)
  have X1_2 := Lib.hid (X1_1.out.below hb)
  have S1_2 := Lib.hid (S1_1.out.below hb)
  have HR := Lib.hid hr
  clear hr hb X1_1 S1_1
  refine Lib.hid ?_
  have hA := (Below.refl w2.heap.size w2).alloc (Nat.le_refl _) (Obj.cells #[.string ⟨#[32]⟩, .string ⟨#[10]⟩, .string ⟨#[9, 13, 10, 32]⟩, .string ⟨#[32, 35, 32, 99, 59, 32, 125, 123, 32, 10]⟩, .string ⟨#[10, 35, 10]⟩] 9)
  have B3 := Lib.hid (Below.chain B2.out hA)
  have X1_3 := Lib.hid (X1_2.out.below hA)
  have S1_3 := Lib.hid (S1_2.out.below hA)
  have HR3 := Lib.hid (HR.out.keep hA)
  clear hA X1_2 S1_2 HR
  have hfb := Lib.fresh_isBuilder 45 5 (w2.alloc (Obj.cells #[.string ⟨#[32]⟩, .string ⟨#[10]⟩, .string ⟨#[9, 13, 10, 32]⟩, .string ⟨#[32, 35, 32, 99, 59, 32, 125, 123, 32, 10]⟩, .string ⟨#[10, 35, 10]⟩] 9))
  have hAB := (Below.refl (w2.alloc (Obj.cells #[.string ⟨#[32]⟩, .string ⟨#[10]⟩, .string ⟨#[9, 13, 10, 32]⟩, .string ⟨#[32, 35, 32, 99, 59, 32, 125, 123, 32, 10]⟩, .string ⟨#[10, 35, 10]⟩] 9)).heap.size (w2.alloc (Obj.cells #[.string ⟨#[32]⟩, .string ⟨#[10]⟩, .string ⟨#[9, 13, 10, 32]⟩, .string ⟨#[32, 35, 32, 99, 59, 32, 125, 123, 32, 10]⟩, .string ⟨#[10, 35, 10]⟩] 9))).alloc (Nat.le_refl _) (Obj.cells #[.pointer none, .slice none 0 0] 45)
  have hqz : (w2.alloc (Obj.cells #[.string ⟨#[32]⟩, .string ⟨#[10]⟩, .string ⟨#[9, 13, 10, 32]⟩, .string ⟨#[32, 35, 32, 99, 59, 32, 125, 123, 32, 10]⟩, .string ⟨#[10, 35, 10]⟩] 9)).heap.size < ((w2.alloc (Obj.cells #[.string ⟨#[32]⟩, .string ⟨#[10]⟩, .string ⟨#[9, 13, 10, 32]⟩, .string ⟨#[32, 35, 32, 99, 59, 32, 125, 123, 32, 10]⟩, .string ⟨#[10, 35, 10]⟩] 9)).alloc (Obj.cells #[.pointer none, .slice none 0 0] 45)).heap.size := by simp
  have hw0z : (w2.alloc (Obj.cells #[.string ⟨#[32]⟩, .string ⟨#[10]⟩, .string ⟨#[9, 13, 10, 32]⟩, .string ⟨#[32, 35, 32, 99, 59, 32, 125, 123, 32, 10]⟩, .string ⟨#[10, 35, 10]⟩] 9)).heap.size = w2.heap.size + 1 := by simp
  rw [hw0z] at hfb hqz
  have hABz : Below (w2.heap.size + 1) (w2.alloc (Obj.cells #[.string ⟨#[32]⟩, .string ⟨#[10]⟩, .string ⟨#[9, 13, 10, 32]⟩, .string ⟨#[32, 35, 32, 99, 59, 32, 125, 123, 32, 10]⟩, .string ⟨#[10, 35, 10]⟩] 9)) ((w2.alloc (Obj.cells #[.string ⟨#[32]⟩, .string ⟨#[10]⟩, .string ⟨#[9, 13, 10, 32]⟩, .string ⟨#[32, 35, 32, 99, 59, 32, 125, 123, 32, 10]⟩, .string ⟨#[10, 35, 10]⟩] 9)).alloc (Obj.cells #[.pointer none, .slice none 0 0] 45)) := by rw [← hw0z]; exact hAB
  have HFB := Lib.hid hfb; have HAB := Lib.hid hABz; have HQZ := Lib.hid hqz; have HW0Z := Lib.hid hw0z
  clear hfb hAB hqz hABz hw0z
  go_wp2_with fail
  rw [hwn]
  go_loopw [52] (fun iv wr => ∃ j : Nat, j ≤ nn ∧ iv = .int .i64 (j : Int) ∧ IsB (w2.heap.size + 1) (w2.heap.size + 1) (Lib.byteCells (O j)) wr ∧ w2.heap.size + 1 < wr.heap.size ∧ Below (w2.heap.size + 1) (w2.alloc (Obj.cells #[.string ⟨#[32]⟩, .string ⟨#[10]⟩, .string ⟨#[9, 13, 10, 32]⟩, .string ⟨#[32, 35, 32, 99, 59, 32, 125, 123, 32, 10]⟩, .string ⟨#[10, 35, 10]⟩] 9)) wr) (fun iv _ => nn - (intOf iv).toNat)
  case atStart => exact ⟨0, Nat.zero_le _, rfl, by rw [H0.out]; exact HFB.out, HQZ.out, HAB.out⟩
  case round =>
    obtain ⟨j, hj, rfl, hI, hq, hB⟩ := hrel
    have hBw : Below (w2.alloc (Obj.cells #[.string ⟨#[32]⟩, .string ⟨#[10]⟩, .string ⟨#[9, 13, 10, 32]⟩, .string ⟨#[32, 35, 32, 99, 59, 32, 125, 123, 32, 10]⟩, .string ⟨#[10, 35, 10]⟩] 9)).heap.size (w2.alloc (Obj.cells #[.string ⟨#[32]⟩, .string ⟨#[10]⟩, .string ⟨#[9, 13, 10, 32]⟩, .string ⟨#[32, 35, 32, 99, 59, 32, 125, 123, 32, 10]⟩, .string ⟨#[10, 35, 10]⟩] 9)) wr := by rw [HW0Z.out]; exact hB
    by_cases hlt : j < nn
    · have hjL : j < L.length := by rw [HNN.out]; exact hlt
      obtain ⟨b3, o3, ha3, hat⟩ := HR3.out.at HNE.out
      subst ha3
      obtain ⟨d0, d1, d2⟩ := hat j hjL wr hBw
      have hts := HTZ.out _ (tkD_mem hjL)
      have hstep := HST.out j hjL
      have g0 : (0 : Int) ≤ (j : Int) := by omega
      have g2 : (j : Int) < (nn : Int) := by omega
      have hnl := HNL.out
      have ej : wrap64 ((j : Int) + 1) = (j : Int) + 1 := (wrapB _ (by omega) (by omega)).2
      have hWA := (Below.refl wr.heap.size wr).alloc (Nat.le_refl _) (Obj.cells #[.int .i64 (tkD L j).k, .string (tkD L j).t, .int .i64 (tkD L j).a] 47)
      have hIA := isB_keep hI hWA
      have hqA := Nat.lt_of_lt_of_le hq hWA.size
      have hBA : Below (w2.heap.size + 1) (w2.alloc (Obj.cells #[.string ⟨#[32]⟩, .string ⟨#[10]⟩, .string ⟨#[9, 13, 10, 32]⟩, .string ⟨#[32, 35, 32, 99, 59, 32, 125, 123, 32, 10]⟩, .string ⟨#[10, 35, 10]⟩] 9)) (wr.alloc (Obj.cells #[.int .i64 (tkD L j).k, .string (tkD L j).t, .int .i64 (tkD L j).a] 47)) := hB.trans (hWA.mono (Nat.le_of_lt hq))
      have hgz := HGZ.out
      have hol := HOL.out j
      have u1 : ¬ 9223372036854775807 < g.size + (tkD L j).t.size := by omega
      have KW := wrString_any (w2.heap.size + 1) (w2.heap.size + 1) (Lib.byteCells (O j)) (g ++ (tkD L j).t) (wr.alloc (Obj.cells #[.int .i64 (tkD L j).k, .string (tkD L j).t, .int .i64 (tkD L j).a] 47)) hIA (by rw [Lib.byteCells_length]; omega) (by rw [ByteArray.size_append]; omega) (Nat.le_of_lt hqA)
      have hcells : Lib.byteCells (O j) ++ Lib.strCells (g ++ (tkD L j).t) = Lib.byteCells (O (j + 1)) := by rw [hstep, Lib.byteCells_append]; rfl
      rw [hcells] at KW
      generalize tkD L j = T at *
      obtain ⟨tk, tt, ta⟩ := T
      have KW := Lib.hid KW; have HBA := Lib.hid hBA; have HQA := Lib.hid hqA; have HJ := Lib.hid hlt
      clear hj hI hq hB hBw hlt hjL hat hts hstep hnl hWA hIA hqA hBA hgz hol hcells hsg1 hsg2 hsg3
      go_wp2_with (go_at_call 21; refine KW.out.mono ?_; rintro e w6 ⟨rfl, ha6, hb6, -⟩; refine Hid.out ?_)
      have HA6 := Lib.hid ha6; have HB6 := Lib.hid (HBA.out.trans hb6); have HQ6 := Lib.hid (Nat.lt_of_lt_of_le HQA.out hb6.size)
      clear ha6 hb6
      refine Lib.hid ?_
      go_wp2
      go_roundw
      case rel => exact ⟨j + 1, HJ.out, congrArg (Value.int .i64) (ej.trans (Int.natCast_add j 1).symm), Or.inr HA6.out, HQ6.out, HB6.out⟩
      case measure => have := HJ.out; rw [ej]; show nn - ((j : Int) + 1).toNat < nn - ((j : Int)).toNat; omega
    · obtain rfl : j = nn := by omega
      have ge : decide ((j : Int) < (j : Int)) = false := by rw [decide_eq_false_iff_not]; omega
      have ge2 : ¬ (j : Int) < (j : Int) := by omega
      have hS := bldString_at (w2.heap.size + 1) (w2.heap.size + 1) (O j) wr hI (by omega)
      obtain ⟨y, hy1, hy2⟩ := HM.out ⟨(O j).toArray⟩ (by rw [← HFULL.out]; show ((O j).toArray).toList = _; simp)
      have KST := Lib.hid hS; have HY1 := Lib.hid hy1; have HY2 := Lib.hid hy2
      have X1_4o := X1_3
      have S1_4o := S1_3
      clear hS hy1 hy2 hB hI hj hlt hq X1_3 S1_3 hsg1 hsg2 hsg3
      have HBW := Lib.hid hBw; clear hBw
      go_wp2_with (go_at_call 22; refine KST.out.mono ?_; rintro e w5 ⟨rfl, hb5⟩; refine Hid.out ?_)
      have hW05 := HBW.out.trans (hb5.mono (Nat.le_of_eq HW0Z.out))
      have B5 := Lib.hid (Below.chain B3.out hW05)
      have X1_5 := Lib.hid (X1_4o.out.below hW05)
      have S1_5 := Lib.hid (S1_4o.out.below hW05)
      clear hb5 hW05 X1_4o S1_4o
      refine Lib.hid ?_

      go_wp2_with (go_at_call 16; refine (ent_ok HY1.out (HE.out.part B5.out _ _ HK.out)).mono ?_; rintro e w6 ⟨k6, a6, t6, n6, o6, l6, c6, q6, hq6, rfl, hb, hx⟩; refine Hid.out ?_)
      have hA : Below w6.heap.size w6 (w6.alloc (Obj.cells #[.int .i64 k6, .int .i64 a6, .string t6, .int .i64 n6, .slice o6 l6 c6] 25)) := (Below.refl _ _).alloc (Nat.le_refl _) _
      have B6 := Lib.hid (Below.chain B5.out (Below.chain hb hA))
      have X1_6 := Lib.hid (X1_5.out.below (Below.chain hb hA))
      clear X1_5
      have S1_6 := Lib.hid (S1_5.out.below (Below.chain hb hA))
      clear S1_5
      have X6_6 := Lib.hid (Bx5.new w6 (.int .i64 k6) (.int .i64 a6) (.string t6) (.int .i64 n6) (.slice o6 l6 c6))
      have S6_6 := Lib.hid (hx.below hA)
      clear hA hb hx
      refine Lib.hid ?_
      have K1 := same_any9 _ _ _ _ _ _ _ S1_6.out S6_6.out
      rw [eq_of_bare HY2.out] at K1
      have K1 := Lib.hid K1
      obtain ⟨d0, d1, d2, d3, d4, -, -⟩ := X1_6.out
      obtain ⟨e0, e1, e2, e3, e4, -, -⟩ := X6_6.out
      clear S1_6 S6_6 X1_6 X6_6
      go_wp2_with (go_at_call 23; refine K1.out.mono ?_; rintro e w7 ⟨rfl, hb⟩; refine Hid.out ?_)
      have B7 := Lib.hid (Below.chain B6.out hb)
      clear hb d0 d1 d2 d3 d4 e0 e1 e2 e3 e4
      refine Lib.hid ?_
      go_wp2_with (go_at_call 12; refine (HE.out.awake B7.out).mono ?_; rintro e w8 ⟨rfl, hb⟩; refine Hid.out ?_)
      have B8 := Lib.hid (Below.chain B7.out hb)
      clear hb
      refine Lib.hid ?_
      go_wp2
      go_ret
      exact ⟨rfl, B8.out⟩
theorem lspaces_walk (s : ByteArray) (k n : Nat) (hk : k < 256) (hn : n < 256) (w : World) (h : Env w) :
    Calls Tryz.prog 6 #[.string s, .int .u8 (k : Int), .int .u8 (n : Int)] w fun e w' => e = .returned (.bool true) ∧ Below w.heap.size w w' := by
  cases g1 : decide ((1000 : Int) < (s.size : Int)) with
  | true => exact lsp_big s k n hk hn g1 w h
  | false =>
    rcases pAns_cases (k % 4) s with ⟨x, hp⟩ | ⟨a1, c1, hp⟩
    · exact lsp_good s k n hk hn g1 x hp w h
    · exact lsp_bad s k n hk hn g1 a1 c1 hp w h
end Go.Proofs.YtdibcllakkjegaaGreatDoor

