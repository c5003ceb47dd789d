import Derived.Test.YtjobmkdaaionlaaGreatDoorCut28
import Derived.Laws.OwnMore
import Derived.Lib.SliceRun
import Derived.Deep.RegionHeld3
import Derived.Deep.AppendLies

set_option linter.unusedVariables false
set_option linter.unusedSimpArgs false
/-
  linear: lists of numbers.
-/
namespace Go.Proofs.YtjobmkdaaionlaaGreatDoor
open Go Go.Proofs Go.RowKit
def SRow (w : World) (ao : Option Addr) (c : Nat) (l : List ByteArray) : Prop :=
  l.length ≤ c ∧ c ≤ 9223372036854775807 ∧ ((l = [] ∧ (ao = none → c = 0)) ∨ ∃ b off, ao = some ⟨b, off, none⟩ ∧ b < w.heap.size ∧ ∀ k (h : k < l.length), w.cell? ⟨b, off + k, none⟩ = some (.string (l[k]'h)))
theorem SRow.mono {w w' : World} {ao : Option Addr} {c : Nat} {l : List ByteArray} (h : SRow w ao c l) (hb : Below w.heap.size w w') : SRow w' ao c l := by
  obtain ⟨h1, h2, h3⟩ := h
  refine ⟨h1, h2, ?_⟩
  rcases h3 with h | ⟨b, off, h, hlt, hc⟩
  · exact .inl h
  · exact .inr ⟨b, off, h, Nat.lt_of_lt_of_le hlt hb.size, fun k hk => (hb.cell (p := ⟨b, off + k, none⟩) hlt).trans (hc k hk)⟩
theorem SRow.get {w : World} {ao : Option Addr} {c : Nat} {l : List ByteArray} (h : SRow w ao c l) (k : Nat) (hk : k < l.length) : ∃ b off, ao = some ⟨b, off, none⟩ ∧ b < w.heap.size ∧ w.cell? ⟨b, off + k, none⟩ = some (.string (l[k]'hk)) := by
  rcases h.2.2 with ⟨e, -⟩ | ⟨b, off, e, hlt, hc⟩
  · subst e; exact absurd hk (by simp)
  · exact ⟨b, off, e, hlt, hc k hk⟩
def firstE : List ByteArray → Nat
  | [] => 0
  | s :: t => if numE (bytes s) = 0 then firstE t else numE (bytes s)
theorem firstE_drop (l : List ByteArray) (k : Nat) (h : k < l.length) : firstE (l.drop k) = if numE (bytes (l[k]'h)) = 0 then firstE (l.drop (k + 1)) else numE (bytes (l[k]'h)) := by
  rw [List.drop_eq_getElem_cons h]; rfl
theorem firstE_end (l : List ByteArray) : firstE (l.drop l.length) = 0 := by rw [List.drop_length]; rfl
set_option maxHeartbeats 2000000 in
theorem checkNumbersL (l : List ByteArray) (ao : Option Addr) (c : Nat) (w : World) (hr : SRow w ao c l) (hs : ∀ s ∈ l, s.size ≤ 1200000) (hn : l.length ≤ 1000000000) (htab : Lib.TabIs Tryz.prog w "internal/strconv.uint64pow10" .u64 Lib.pow10Tab) :
    Calls Tryz.prog 66 #[.slice ao l.length c] w (Bret (.int .i64 (firstE l : Nat)) w) := by
  have hg : ∀ W, Below w.heap.size w W → ∀ k (hk : k < l.length), ∃ b off, ao = some ⟨b, off, none⟩ ∧ b < W.heap.size ∧ W.cell? ⟨b, off + k, none⟩ = some (.string (l[k]'hk)) := fun W hW => (hr.mono hW).get
  have HG := Lib.hid hg; have HS := Lib.hid hs
  have HT := Lib.hid (Lib.tabBelow_of_tabIs htab)
  have hend := firstE_end l
  clear hr hg hs htab
  generalize hlen : l.length = n at hn hend ⊢
  generalize hf : firstE l = f
  have HLEN := Lib.hid hlen; have HF := Lib.hid hf; have HEND := Lib.hid hend; clear hlen hf hend
  go_enter Tryz.func66, Tryz.ntmps66
  go_wp2_with fail
  go_loopw [8] (fun iv wr => ∃ k : Nat, k ≤ n ∧ iv = .int .i64 k ∧ f = firstE (l.drop k) ∧ Below w.heap.size w wr) (fun iv _ => n - (intOf iv).toNat)
  case atStart => exact ⟨0, Nat.zero_le _, rfl, by rw [List.drop_zero, HF.out], Below.refl _ _⟩
  case round =>
    obtain ⟨k, hk, rfl, hfk, hbw⟩ := hrel
    have HB := Lib.hid hbw; have HFK := Lib.hid hfk; clear hbw hfk
    by_cases hlt : k < n
    · have hlt' : k < l.length := by rw [HLEN.out]; exact hlt
      obtain ⟨b, off, rfl, hbl, ck⟩ := HG.out wr HB.out k hlt'
      have hz := HS.out _ (List.getElem_mem hlt')
      have hd := firstE_drop l k hlt'
      generalize l[k]'hlt' = sk at *
      have HD := Lib.hid hd; clear hd
      have CC := checkNumber sk wr hz (HT.out.on HB.out).here
      rcases numE_cases (bytes sk) with he | he | he
      · have e1 := HFK.out
        rw [HD.out, if_pos he] at e1
        have E1 := Lib.hid e1
        rw [he] at CC
        have KC := Lib.hid CC; clear CC e1 he HD HFK hz
        go_wp2_with (go_at_call 45; refine KC.out.mono ?_; rintro e w3 ⟨rfl, hb3⟩; refine Hid.out ?_)
        refine Lib.hid ?_
        go_wp2
        go_roundw
        case rel => exact ⟨k + 1, by omega, by go_num, E1.out, Below.chain HB.out hb3⟩
        case measure => simp [intOf]; omega
      all_goals
        have e1 := HFK.out
        rw [HD.out, if_neg (by omega), he] at e1
        subst e1
        rw [he] at CC
        have KC := Lib.hid CC; clear CC he HD HFK hz
        go_wp2_with (go_at_call 45; refine KC.out.mono ?_; rintro e w3 ⟨rfl, hb3⟩; refine Hid.out ?_)
        have HB3 := Lib.hid (Below.chain HB.out hb3); clear hb3
        refine Lib.hid ?_
        go_wp2
        go_ret
        exact ⟨rfl, HB3.out⟩
    · have hkn : k = n := by omega
      subst hkn
      have e1 := HFK.out
      rw [HEND.out] at e1
      subst e1
      go_wp2
      go_ret
      exact ⟨rfl, HB.out⟩
set_option maxHeartbeats 2000000 in
theorem refNumbers03 (l : List ByteArray) (ao : Option Addr) (c : Nat) (w : World) (hr : SRow w ao c l) (hs : ∀ s ∈ l, s.size ≤ 1200000) (hn : l.length ≤ 1000000000) :
    Calls Tryz.prog 67 #[.slice ao l.length c] w (Bret (.int .i64 (firstE l : Nat)) w) := by
  have hg : ∀ W, Below w.heap.size w W → ∀ k (hk : k < l.length), ∃ b off, ao = some ⟨b, off, none⟩ ∧ b < W.heap.size ∧ W.cell? ⟨b, off + k, none⟩ = some (.string (l[k]'hk)) := fun W hW => (hr.mono hW).get
  have HG := Lib.hid hg; have HS := Lib.hid hs
  
  have hend := firstE_end l
  clear hr hg hs 
  generalize hlen : l.length = n at hn hend ⊢
  generalize hf : firstE l = f
  have HLEN := Lib.hid hlen; have HF := Lib.hid hf; have HEND := Lib.hid hend; clear hlen hf hend
  go_enter Tryz.func67, Tryz.ntmps67
  go_wp2_with fail
  go_loopw [3] (fun iv wr => ∃ k : Nat, k ≤ n ∧ iv = .int .i64 k ∧ f = firstE (l.drop k) ∧ Below w.heap.size w wr) (fun iv _ => n - (intOf iv).toNat)
  case atStart => exact ⟨0, Nat.zero_le _, rfl, by rw [List.drop_zero, HF.out], Below.refl _ _⟩
  case round =>
    obtain ⟨k, hk, rfl, hfk, hbw⟩ := hrel
    have HB := Lib.hid hbw; have HFK := Lib.hid hfk; clear hbw hfk
    by_cases hlt : k < n
    · have hlt' : k < l.length := by rw [HLEN.out]; exact hlt
      obtain ⟨b, off, rfl, hbl, ck⟩ := HG.out wr HB.out k hlt'
      have hz := HS.out _ (List.getElem_mem hlt')
      have hd := firstE_drop l k hlt'
      generalize l[k]'hlt' = sk at *
      have HD := Lib.hid hd; clear hd
      have CC := refNumber03 sk wr hz
      rcases numE_cases (bytes sk) with he | he | he
      · have e1 := HFK.out
        rw [HD.out, if_pos he] at e1
        have E1 := Lib.hid e1
        rw [he] at CC
        have KC := Lib.hid CC; clear CC e1 he HD HFK hz
        go_wp2_with (go_at_call 48; refine KC.out.mono ?_; rintro e w3 ⟨rfl, hb3⟩; refine Hid.out ?_)
        refine Lib.hid ?_
        go_wp2
        go_roundw
        case rel => exact ⟨k + 1, by omega, by go_num, E1.out, Below.chain HB.out hb3⟩
        case measure => simp [intOf]; omega
      all_goals
        have e1 := HFK.out
        rw [HD.out, if_neg (by omega), he] at e1
        subst e1
        rw [he] at CC
        have KC := Lib.hid CC; clear CC he HD HFK hz
        go_wp2_with (go_at_call 48; refine KC.out.mono ?_; rintro e w3 ⟨rfl, hb3⟩; refine Hid.out ?_)
        have HB3 := Lib.hid (Below.chain HB.out hb3); clear hb3
        refine Lib.hid ?_
        go_wp2
        go_ret
        exact ⟨rfl, HB3.out⟩
    · have hkn : k = n := by omega
      subst hkn
      have e1 := HFK.out
      rw [HEND.out] at e1
      subst e1
      go_wp2
      go_ret
      exact ⟨rfl, HB.out⟩
theorem infoRat : (Tryz.prog.info? 22).map (fun i => (i.zero, i.size, i.bytes)) = some (some (.string ⟨#[]⟩), 1, 16) := by kernel_rfl
def strCells (l : List ByteArray) : List Value := l.map Value.string
theorem strCells_length (l : List ByteArray) : (strCells l).length = l.length := by simp [strCells]
theorem strCells_append (a b : List ByteArray) : strCells (a ++ b) = strCells a ++ strCells b := by simp [strCells]
theorem srow_of_owns {w : World} {base : Nat} {v : Value} {l : List ByteArray} (h : w.ownsRow base 22 1 v l.length (strCells l)) : ∃ ao c, v = .slice ao l.length c ∧ SRow w ao c l := by
  rcases h.2 with ⟨rfl, h0⟩ | ⟨g, cap, cur, rfl, -, hg, h1, h2, h3, h4⟩
  · have : l = [] := List.length_eq_zero_iff.1 h0
    subst this
    exact ⟨none, 0, rfl, by simp, by decide, .inl ⟨rfl, fun _ => rfl⟩⟩
  · refine ⟨_, cap, rfl, h1, h2, .inr ⟨g, 0, rfl, (Array.getElem?_eq_some_iff.1 hg).1, fun k hk => ?_⟩⟩
    rw [Nat.zero_add, h.cellAt k (by omega)]
    simp [strCells, hk]
set_option maxRecDepth 20000 in
set_option maxHeartbeats 1000000 in
theorem clone_any (l : List ByteArray) (ao : Option Addr) (c : Nat) (w : World) (hr : SRow w ao c l) (hn : l.length ≤ 1200000) :
    Calls Tryz.prog 83 #[.slice ao l.length c] w fun e w' => ∃ v, e = .returned v ∧ w'.ownsRow w.heap.size 22 1 v l.length (strCells l) ∧ Below w.heap.size w w' := by
  obtain ⟨i0, hi, hz0, hz1, hz2⟩ := info_parts infoRat
  have q : ∀ (w : World) (a : Option Addr) (n c n' c' : Nat), (binOp .eql 25 (.slice a n c) (.slice none n' c')).run Tryz.prog w = .ok (.bool a.isNone) w := fun w a n c n' c' => Lib.run_eql_slice_nil w _ _ a n c n' c' Tryz.underlying25
  cases ao with
  | none =>
    have hl : l = [] := by
      rcases hr.2.2 with ⟨h, -⟩ | ⟨b, off, h, -⟩
      · exact h
      · cases h
    have hc : c = 0 := by
      rcases hr.2.2 with ⟨-, h⟩ | ⟨b, off, h, -⟩
      · exact h rfl
      · cases h
    subst hl hc
    clear hr
    go_enter Tryz.func83, Tryz.ntmps83
    go_wp2
    refine bodyPost_ret (v := .slice none 0 0) (by simp [results, Tryz.results83, go_sem]) rfl ?_
    exact ⟨_, rfl, World.ownsRow_nil _ _ _ _, Below.refl _ _⟩
  | some ad =>
    have hget : ∀ j u, (strCells l)[j]? = some u → (w.alloc (Obj.cells #[] 22)).cell? (ad.add j) = some u := fun j u h => by
      rcases hr.2.2 with ⟨e, -⟩ | ⟨b, off, e, hlt, hc⟩
      · subst e; simp [strCells] at h
      · cases e
        have hj : j < l.length := by
          have := (List.getElem?_eq_some_iff.1 h).1
          rwa [strCells_length] at this
        rw [show ((⟨b, off, none⟩ : Addr).add j) = ⟨b, off + j, none⟩ by simp [Addr.add]]
        refine (World.cell?_alloc_lt _ _ _ hlt).trans ((hc j hj).trans ?_)
        rw [← h]; simp [strCells, hj]
    have hown := World.ownsRow_lit (base := w.heap.size) (e := 22) (size := 1) w #[] 0 (Nat.le_refl _) (by decide) rfl
    have HG := Lib.hid hget; clear hget hr
    generalize hlen : l.length = n at *
    go_enter Tryz.func83, Tryz.ntmps83
    go_wp2_with (at_builtin; refine wpList_append_own _ rfl _ _ 25 rfl w.heap.size 22 i0 (.string ⟨#[]⟩) 1 16 Tryz.underlying25 hi hz0 hz1 hz2 rfl (by decide) _ _ _ rfl hown ad n c (strCells l) rfl ?c1 ?c2 ?c3 ?c4 ?c5 (by simp) ?_)
    case c1 => rw [strCells_length, hlen]
    case c2 => exact HG.out
    case c3 => intro u hu; simp [strCells] at hu; obtain ⟨x, -, rfl⟩ := hu; rfl
    case c4 => unfold maxLen; omega
    case c5 => omega
    intro v' w1 hown' hgrow _
    go_wp2
    refine bodyPost_ret (v := v') (by simp [results, Tryz.results83, go_sem]) rfl ?_
    refine ⟨_, rfl, ?_, ?_⟩
    · rw [show n = 0 + n by omega]; simpa using hown'
    · exact ((Below.refl _ _).alloc (Nat.le_refl _) _).grown hgrow (by simp) (fun k hk => ((hown.lt k hk)).1)
theorem owns_base {w : World} {b b' : Nat} {e : TypeId} {s : Nat} {v : Value} {n : Nat} {xs : List Value} (h : w.ownsRow b e s v n xs) (hb : b' ≤ b) : w.ownsRow b' e s v n xs :=
  ⟨h.1, h.2.imp_right fun ⟨g, cap, cur, e1, h1, r⟩ => ⟨g, cap, cur, e1, Nat.le_trans hb h1, r⟩⟩
set_option maxRecDepth 20000 in
set_option maxHeartbeats 4000000 in
theorem numbers_any (l : List ByteArray) (k : ByteArray) (ao : Option Addr) (c : Nat) (w : World) (hr : SRow w ao c l) (hn : l.length ≤ 1200000) :
    Calls Tryz.prog 54 #[.agg #[.slice ao l.length c, .string k]] w fun e w' => ∃ v, e = .returned v ∧ w'.ownsRow w.heap.size 22 1 v (l.length + 1) (strCells (l ++ [k])) ∧ Below w.heap.size w w' := by
  obtain ⟨i0, hi, hz0, hz1, hz2⟩ := info_parts infoRat
  have C : ∀ (B : Nat) (W : World), Below w.heap.size w W → B ≤ W.heap.size → Calls Tryz.prog 83 #[.slice ao l.length c] W fun e w' => ∃ v, e = .returned v ∧ w'.ownsRow B 22 1 v l.length (strCells l) ∧ Below W.heap.size W w' := fun B W hW hB =>
    (clone_any l ao c W (hr.mono hW) hn).mono fun e w' ⟨v, h1, h2, h3⟩ => ⟨v, h1, owns_base h2 hB, h3⟩
  rw [strCells_append]
  generalize l.length = n at *
  have B0 : Below w.heap.size w (w.alloc (Obj.cells #[.slice ao n c, .string k] 27)) := (Below.refl _ _).alloc (Nat.le_refl _) _
  have x0 : (w.alloc (Obj.cells #[.slice ao n c, .string k] 27)).cell? ⟨w.heap.size, 0, none⟩ = some (.slice ao n c) := by go_cell
  have x1 : (w.alloc (Obj.cells #[.slice ao n c, .string k] 27)).cell? ⟨w.heap.size, 1, none⟩ = some (.string k) := by go_cell
  have s0 : w.heap.size < (w.alloc (Obj.cells #[.slice ao n c, .string k] 27)).heap.size := by simp
  have KC := Lib.hid C; clear C hr
  go_enter Tryz.func54, Tryz.ntmps54
  go_wp2_with fail
  generalize w.alloc (Obj.cells #[.slice ao n c, .string k] 27) = W1 at *
  have K : ∀ W : World, Below W1.heap.size W1 W → (W.cell? ⟨w.heap.size, 0, none⟩ = some (.slice ao n c) ∧ W.cell? ⟨w.heap.size, 1, none⟩ = some (.string k)) ∧ Below w.heap.size w W := fun W hW => ⟨⟨(hW.cell (p := ⟨w.heap.size, 0, none⟩) s0).trans x0, (hW.cell (p := ⟨w.heap.size, 1, none⟩) s0).trans x1⟩, Below.chain B0 hW⟩
  have KK := Lib.hid K; clear K x0 x1 B0
  have hD : Below W1.heap.size W1 W1.drew := (Below.refl _ _).drew
  have hE : Below W1.heap.size W1 (W1.alloc (Obj.cells #[.string k] 22)).drew := ((Below.refl _ _).alloc (Nat.le_refl _) _).drew
  go_region_held3 (fun w' => w'.cell? ⟨w.heap.size, 0, none⟩ = some (Value.slice ao n c) ∧ w'.cell? ⟨w.heap.size, 1, none⟩ = some (Value.string k)) (first | (with_reducible exact (KK.out _ hD).1) | (with_reducible exact (KK.out _ hE).1) | (with_reducible exact (KK.out _ hB1).1) | (with_reducible exact (KK.out _ (hB1.alloc hB1.size _)).1) | (with_reducible exact (KK.out _ hB9).1) | fail) (first
    | (go_at_call 83; (first | (with_reducible refine (KC.out W1.heap.size _ (KK.out _ hD).2 hD.size).mono ?_); rintro e w1 ⟨v1, rfl, ho1, hb1⟩; have hB1 := Below.chain hD hb1 | (with_reducible refine (KC.out W1.heap.size _ (KK.out _ hE).2 hE.size).mono ?_); rintro e w1 ⟨v1, rfl, ho1, hb1⟩; have hB1 := Below.chain hE hb1))
    | (refine step_append_lies _ rfl (.tmp 5) (.tmp 8) 25 rfl W1.heap.size 22 i0 (.string ⟨#[]⟩) 1 16 Tryz.underlying25 hi hz0 hz1 hz2 rfl (by decide) v1 n (strCells l) (by simp [Act.eval, Act.put]) (ho1.alloc _) ⟨w1.heap.size, 0, none⟩ 1 1 [.string k] (by simp [Act.eval, Act.put]) rfl (cell_one_new _ _ _) (by intro u hu; simp at hu; subst hu; rfl) (by decide) (by unfold maxLen; omega) (by omega) ?_ _ rfl ?_; (exact Nat.le_trans hB1.size (by simp)); intro g cap w9 hown9 hgrow _ hg9; have hB9 := (hB1.alloc hB1.size _).grown hgrow (Nat.le_trans hB1.size (by simp)) (fun k hk => (ho1.lt k hk).1))
    | (refine step_append_lies _ rfl (.tmp 5) (.tmp 8) 25 rfl W1.heap.size 22 i0 (.string ⟨#[]⟩) 1 16 Tryz.underlying25 hi hz0 hz1 hz2 rfl (by decide) v1 n (strCells l) (by simp [Act.eval, Act.put]) ho1 ⟨W1.heap.size, 0, none⟩ 1 1 [.string k] (by simp [Act.eval, Act.put]) rfl (fun j u hj => by match j, hj with | 0, hj => (simp at hj; subst hj; exact (hb1.cell (p := ⟨W1.heap.size, 0, none⟩) (by simp)).trans (by go_cell))) (by intro u hu; simp at hu; subst hu; rfl) (by decide) (by unfold maxLen; omega) (by omega) ?_ _ rfl ?_; (exact hB1.size); intro g cap w9 hown9 hgrow _ hg9; have hB9 := hB1.grown hgrow hB1.size (fun k hk => (ho1.lt k hk).1)))
  all_goals
    have HB := Lib.hid (KK.out _ hB9).2
    have HO := Lib.hid (owns_base hown9 (Nat.le_of_lt s0))
    go_wp2
    refine bodyPost_ret (v := .slice (some ⟨g, 0, none⟩) (n + 1) cap) (by simp [results, Tryz.results54, go_sem]) rfl ?_
    exact ⟨_, rfl, HO.out, HB.out⟩
def linE (l : List ByteArray) (k : ByteArray) : Nat := if 32 < l.length then 5 else firstE (l ++ [k])
set_option maxHeartbeats 2000000 in
theorem linCheck (l : List ByteArray) (k : ByteArray) (ao : Option Addr) (c : Nat) (w : World) (hr : SRow w ao c l) (hz : ∀ s ∈ l ++ [k], s.size ≤ 1200000) (hn : l.length ≤ 1200000) (htab : Lib.TabIs Tryz.prog w "internal/strconv.uint64pow10" .u64 Lib.pow10Tab) :
    Calls Tryz.prog 26 #[.agg #[.slice ao l.length c, .string k]] w (Bret (.int .i64 (linE l k : Nat)) w) := by
  have hT := Lib.tabBelow_of_tabIs htab
  have CN : ∀ W : World, Below w.heap.size w W → Calls Tryz.prog 54 #[.agg #[.slice ao l.length c, .string k]] W fun e w' => ∃ a2 c2, e = .returned (.slice a2 (l.length + 1) c2) ∧ SRow w' a2 c2 (l ++ [k]) ∧ Below W.heap.size W w' := fun W hW =>
    (numbers_any l k ao c W (hr.mono hW) hn).mono fun e w' ⟨v, h1, h2, h3⟩ => by
      have hl : l.length + 1 = (l ++ [k]).length := by simp
      rw [hl] at h2
      obtain ⟨a2, c2, rfl, h4⟩ := srow_of_owns h2
      exact ⟨a2, c2, by rw [hl]; exact h1, h4, h3⟩
  have CC : ∀ (W : World) (a2 : Option Addr) (c2 : Nat), Below w.heap.size w W → SRow W a2 c2 (l ++ [k]) → Calls Tryz.prog 66 #[.slice a2 (l.length + 1) c2] W (Bret (.int .i64 (firstE (l ++ [k]) : Nat)) W) := fun W a2 c2 hW h => by
    have := checkNumbersL (l ++ [k]) a2 c2 W h hz (by simp; omega) (hT.on hW).here
    rwa [show (l ++ [k]).length = l.length + 1 by simp] at this
  unfold linE
  generalize firstE (l ++ [k]) = f at *
  generalize l ++ [k] = m at *
  have KN := Lib.hid CN; have KC := Lib.hid CC; clear CN CC hr hz hT htab
  generalize l.length = n at *
  have B0 := Lib.hid (show Below w.heap.size w (w.alloc (Obj.cells #[.slice ao n c, .string k] 27)) from (Below.refl _ _).alloc (Nat.le_refl _) _)
  by_cases h32 : 32 < n
  · rw [if_pos h32]
    clear KN KC
    go_enter Tryz.func26, Tryz.ntmps26
    go_wp2
    refine bodyPost_ret (v := .int .i64 5) (by simp [results, Tryz.results26, go_sem]) rfl ?_
    exact ⟨rfl, B0.out⟩
  · rw [if_neg h32]
    go_enter Tryz.func26, Tryz.ntmps26
    go_wp2_with (go_at_call 54; refine (KN.out _ B0.out).mono ?_; rintro e w1 ⟨a2, c2, rfl, hs2, hb1⟩; refine Hid.out ?_)
    have hB1 := Below.chain B0.out hb1; clear hb1
    have HS := Lib.hid hs2; clear hs2
    refine Lib.hid ?_
    go_wp2_with (go_at_call 66; refine (KC.out _ _ _ hB1 HS.out).mono ?_; rintro e w2 ⟨rfl, hb2⟩; refine Hid.out ?_)
    have HB2 := Lib.hid (Below.chain hB1 hb2); clear hb2 hB1
    refine Lib.hid ?_
    go_wp2
    refine bodyPost_ret (v := .int .i64 (f : Nat)) (by simp [results, Tryz.results26, go_sem]) rfl ?_
    exact ⟨rfl, HB2.out⟩
theorem firstE_append (l : List ByteArray) (k : ByteArray) : firstE (l ++ [k]) = if firstE l = 0 then numE (bytes k) else firstE l := by
  induction l with
  | nil =>
    show (if numE (bytes k) = 0 then 0 else numE (bytes k)) = if (0 : Nat) = 0 then numE (bytes k) else 0
    rw [if_pos rfl]; split <;> omega
  | cons s t ih =>
    show (if numE (bytes s) = 0 then firstE (t ++ [k]) else numE (bytes s)) = if (if numE (bytes s) = 0 then firstE t else numE (bytes s)) = 0 then numE (bytes k) else (if numE (bytes s) = 0 then firstE t else numE (bytes s))
    by_cases h : numE (bytes s) = 0
    · rw [if_pos h, if_pos h, ih]
    · rw [if_neg h, if_neg h, if_neg h]
theorem firstE_cases (l : List ByteArray) : firstE l = 0 ∨ firstE l = 3 ∨ firstE l = 10 := by
  induction l with
  | nil => exact .inl rfl
  | cons s t ih =>
    show (if numE (bytes s) = 0 then firstE t else numE (bytes s)) = 0 ∨ (if numE (bytes s) = 0 then firstE t else numE (bytes s)) = 3 ∨ (if numE (bytes s) = 0 then firstE t else numE (bytes s)) = 10
    split
    · exact ih
    · exact numE_cases _
set_option maxHeartbeats 2000000 in
theorem refLinCheck (l : List ByteArray) (k : ByteArray) (ao : Option Addr) (c : Nat) (w : World) (hr : SRow w ao c l) (hz : ∀ s ∈ l, s.size ≤ 1200000) (hk : k.size ≤ 1200000) (hn : l.length ≤ 1200000) :
    Calls Tryz.prog 27 #[.agg #[.slice ao l.length c, .string k]] w (Bret (.int .i64 (linE l k : Nat)) w) := by
  have CN : ∀ W : World, Below w.heap.size w W → Calls Tryz.prog 67 #[.slice ao l.length c] W (Bret (.int .i64 (firstE l : Nat)) W) := fun W hW => refNumbers03 l ao c W (hr.mono hW) hz (by omega)
  have CK : ∀ W : World, Calls Tryz.prog 48 #[.string k] W (Bret (.int .i64 (numE (bytes k) : Nat)) W) := fun W => refNumber03 k W hk
  have hc := firstE_cases l
  unfold linE
  rw [firstE_append]
  generalize firstE l = f at *
  generalize numE (bytes k) = m at *
  have KN := Lib.hid CN; have KC := Lib.hid CK; clear CN CK hr hz hk
  generalize l.length = n at *
  have B0 := Lib.hid (show Below w.heap.size w (w.alloc (Obj.cells #[.slice ao n c, .string k] 27)) from (Below.refl _ _).alloc (Nat.le_refl _) _)
  by_cases h32 : 32 < n
  · rw [if_pos h32]
    clear KN KC
    go_enter Tryz.func27, Tryz.ntmps27
    go_wp2
    refine bodyPost_ret (v := .int .i64 5) (by simp [results, Tryz.results27, go_sem]) rfl ?_
    exact ⟨rfl, B0.out⟩
  · rw [if_neg h32]
    rcases hc with rfl | rfl | rfl
    · rw [if_pos rfl]
      go_enter Tryz.func27, Tryz.ntmps27
      go_wp2_with (go_at_call 67; refine (KN.out _ B0.out).mono ?_; rintro e w1 ⟨rfl, hb1⟩; refine Hid.out ?_)
      have hB1 := Below.chain B0.out hb1
      have s0 : w.heap.size < (w.alloc (Obj.cells #[.slice ao n c, .string k] 27)).heap.size := by simp
      have x1 := (hb1.cell (p := ⟨w.heap.size, 1, none⟩) s0).trans (show (w.alloc (Obj.cells #[.slice ao n c, .string k] 27)).cell? ⟨w.heap.size, 1, none⟩ = some (.string k) by go_cell)
      have s1 := Nat.lt_of_lt_of_le s0 hb1.size
      clear hb1 s0
      refine Lib.hid ?_
      go_wp2_with (go_at_call 48; refine (KC.out _).mono ?_; rintro e w2 ⟨rfl, hb2⟩; refine Hid.out ?_)
      have HB2 := Lib.hid (Below.chain hB1 hb2); clear hb2 hB1
      refine Lib.hid ?_
      go_wp2
      refine bodyPost_ret (v := .int .i64 (m : Nat)) (by simp [results, Tryz.results27, go_sem]) rfl ?_
      exact ⟨rfl, HB2.out⟩
    all_goals
      rw [if_neg (by decide)]
      clear KC
      go_enter Tryz.func27, Tryz.ntmps27
      go_wp2_with (go_at_call 67; refine (KN.out _ B0.out).mono ?_; rintro e w1 ⟨rfl, hb1⟩; refine Hid.out ?_)
      have HB1 := Lib.hid (Below.chain B0.out hb1); clear hb1
      refine Lib.hid ?_
      go_wp2
      refine bodyPost_ret (by simp [results, Tryz.results27, go_sem]; rfl) rfl ?_
      exact ⟨rfl, HB1.out⟩
def LinV (w : World) (v : Value) (l : List ByteArray) (k : ByteArray) : Prop := ∃ ao c, v = .agg #[.slice ao l.length c, .string k] ∧ SRow w ao c l
theorem LinV.mono {w w' : World} {v : Value} {l : List ByteArray} {k : ByteArray} (h : LinV w v l k) (hb : Below w.heap.size w w') : LinV w' v l k := by
  obtain ⟨ao, c, e, hr⟩ := h; exact ⟨ao, c, e, hr.mono hb⟩
theorem SRow.nil (w : World) : SRow w none 0 [] := ⟨Nat.le_refl _, by decide, .inl ⟨rfl, fun _ => rfl⟩⟩
theorem LinV.zero (w : World) : LinV w (.agg #[.slice none 0 0, .string ⟨#[]⟩]) [] ⟨#[]⟩ := ⟨none, 0, rfl, SRow.nil w⟩
structure LOut where
  l : List ByteArray
  k : ByteArray
  e : Nat
def LOut.bad (e : Nat) : LOut := ⟨[], ⟨#[]⟩, e⟩
def RowB (Bd : Nat) (w : World) (ao : Option Addr) (c : Nat) (l : List ByteArray) : Prop := SRow w ao c l ∧ ∀ a, ao = some a → Bd ≤ a.block
theorem RowB.mono {Bd : Nat} {w w' : World} {ao : Option Addr} {c : Nat} {l : List ByteArray} (h : RowB Bd w ao c l) (hb : Below w.heap.size w w') : RowB Bd w' ao c l := ⟨h.1.mono hb, h.2⟩
theorem RowB.lower {B B' : Nat} {w : World} {ao : Option Addr} {c : Nat} {l : List ByteArray} (h : RowB B w ao c l) (hb : B' ≤ B) : RowB B' w ao c l := ⟨h.1, fun a ha => Nat.le_trans hb (h.2 a ha)⟩
theorem RowB.nil (Bd : Nat) (w : World) : RowB Bd w none 0 [] := ⟨SRow.nil w, fun _ h => by cases h⟩
theorem RowB.set {Bd : Nat} {w : World} {ao : Option Addr} {c : Nat} {l : List ByteArray} (h : RowB Bd w ao c l) {p : Nat} (hp : p < Bd) (o : Nat) (v : Value) : RowB Bd (w.setCell ⟨p, o, none⟩ v) ao c l := by
  obtain ⟨⟨h1, h2, h3⟩, h4⟩ := h
  refine ⟨⟨h1, h2, ?_⟩, h4⟩
  rcases h3 with h3 | ⟨b, off, rfl, hlt, hc⟩
  · exact .inl h3
  · have hb := h4 _ rfl
    refine .inr ⟨b, off, rfl, by simpa using hlt, fun k hk => ?_⟩
    rw [World.cell?_setCell_other w ⟨p, o, none⟩ ⟨b, off + k, none⟩ v (by intro e; injection e with e; simp at hb; omega)]
    exact hc k hk
theorem RowB.drew {Bd : Nat} {w : World} {ao : Option Addr} {c : Nat} {l : List ByteArray} (h : RowB Bd w ao c l) : RowB Bd w.drew ao c l := h
def LinRet (Bd : Nat) (o : LOut) (w : World) (e : Ending) (w' : World) : Prop := ∃ ao c, e = .returned (.tuple #[.agg #[.slice ao o.l.length c, .string o.k], .int .i64 (o.e : Nat)]) ∧ RowB Bd w' ao c o.l ∧ Below w.heap.size w w'
def SBlk (T : TypeId) (w : World) (b : Nat) (l : List ByteArray) : Prop := ∃ R : List Value, w.heap[b]? = some (.cells (strCells l ++ R).toArray T (0, 0))
theorem SBlk.lt {T : TypeId} {w : World} {b : Nat} {l : List ByteArray} (h : SBlk T w b l) : b < w.heap.size := by obtain ⟨R, h⟩ := h; exact (Array.getElem?_eq_some_iff.1 h).1
theorem SBlk.cell {T : TypeId} {w : World} {b : Nat} {l : List ByteArray} (h : SBlk T w b l) (k : Nat) (hk : k < l.length) : w.cell? ⟨b, k, none⟩ = some (.string (l[k]'hk)) := by
  obtain ⟨R, h⟩ := h
  have e : w.cell? ⟨b, k, none⟩ = (strCells l ++ R).toArray[k]? := by simp [World.cell?, h]
  rw [e]
  simp only [List.getElem?_toArray]
  rw [List.getElem?_append_left (by rw [strCells_length]; exact hk)]
  simp [strCells, hk]
theorem SBlk.frozen {T : TypeId} {w : World} {b : Nat} {l : List ByteArray} (h : SBlk T w b l) (k : Nat) : w.frozen? ⟨b, k, none⟩ = false := by
  obtain ⟨R, h⟩ := h; simp [World.frozen?, h]
theorem SBlk.set {T : TypeId} {w : World} {b : Nat} {l : List ByteArray} (h : SBlk T w b l) (k : Nat) (hk : k < l.length) (s : ByteArray) : SBlk T (w.setCell ⟨b, k, none⟩ (.string s)) b (l.set k s) := by
  obtain ⟨R, h⟩ := h
  have hlt := (Array.getElem?_eq_some_iff.1 h).1
  have h' : w.heap[b] = .cells (strCells l ++ R).toArray T (0, 0) := by simpa [Array.getElem?_eq_getElem hlt] using h
  have e : (w.setCell ⟨b, k, none⟩ (.string s)).heap[b]? = some (.cells ((strCells l ++ R).set k (.string s)).toArray T (0, 0)) := by
    show (w.heap.modify b _)[b]? = _
    rw [Array.getElem?_eq_getElem (by simpa using hlt), Array.getElem_modify_self, h']
    simp
  refine ⟨R, ?_⟩
  rw [e, List.set_append_left _ _ (by rw [strCells_length]; exact hk)]
  simp [strCells, List.map_set]
theorem SBlk.keep {T : TypeId} {w w' : World} {b : Nat} {l : List ByteArray} (h : SBlk T w b l) (hb : Below w.heap.size w w') : SBlk T w' b l := by
  have hl := h.lt
  obtain ⟨R, h⟩ := h
  exact ⟨R, by rw [hb.block b hl]; exact h⟩
theorem SBlk.row {T : TypeId} {w : World} {b c : Nat} {l : List ByteArray} (h : SBlk T w b l) (hc : l.length ≤ c) (hm : c ≤ 9223372036854775807) : SRow w (some ⟨b, 0, none⟩) c l :=
  ⟨hc, hm, .inr ⟨b, 0, rfl, h.lt, fun k hk => by rw [Nat.zero_add]; exact h.cell k hk⟩⟩
theorem SBlk.owns {T : TypeId} {w : World} {b : Nat} {l : List ByteArray} (h : w.heap[b]? = some (.cells (strCells l).toArray T (0, 0))) (hm : l.length ≤ maxLen) (B : Nat) (hB : B ≤ b) : w.ownsRow B T 1 (.slice (some ⟨b, 0, none⟩) l.length l.length) l.length (strCells l) :=
  ⟨by rw [strCells_length]; omega, .inr ⟨b, l.length, _, rfl, hB, h, Nat.le_refl _, hm, by simp [strCells_length], by rw [List.take_of_length_le (by simp [strCells_length])]⟩⟩
theorem sblk_of_owns {T : TypeId} {w : World} {base g n c : Nat} {l : List ByteArray} (h : w.ownsRow base T 1 (.slice (some ⟨g, 0, none⟩) n c) n (strCells l)) : SBlk T w g l ∧ l.length = n ∧ n ≤ c ∧ c ≤ 9223372036854775807 ∧ base ≤ g := by
  obtain ⟨h1, h2⟩ := h
  rw [strCells_length] at h1
  rcases h2 with ⟨h2, -⟩ | ⟨g', cap, cur, he, hb, hg, hle, hm, hs, ht⟩
  · simp at h2
  · injection he with e1 e2 e3
    injection e1 with e1; injection e1 with e1 _ _
    subst e1; subst e3
    refine ⟨⟨cur.toList.drop (n * 1), ?_⟩, by omega, hle, by unfold maxLen at hm; omega, hb⟩
    rw [hg, ← ht, List.take_append_drop]
theorem made_heap {T : TypeId} {w : World} {base g n : Nat} (h : w.ownsRow base T 1 (.slice (some ⟨g, 0, none⟩) n n) n (madeCells #[Value.string ⟨#[]⟩] n).toList) : w.heap[g]? = some (.cells (List.replicate n (Value.string ⟨#[]⟩)).toArray T (0, 0)) := by
  have e : (madeCells #[Value.string ⟨#[]⟩] n).toList = List.replicate n (Value.string ⟨#[]⟩) :=
    List.ext_getElem (by simp [madeCells]) fun i h3 h4 => by simp [madeCells, Nat.mod_one]
  rw [e] at h
  rcases h.2 with ⟨h2, -⟩ | ⟨g', cap, cur, he, hb, hg, hle, hm, hs, ht⟩
  · simp at h2
  · injection he with e1 e2 e3
    injection e1 with e1; injection e1 with e1 _ _
    subst e1; subst e3
    rw [hg, ← ht, List.take_of_length_le (by simp; omega)]
def XBlk (T : TypeId) (w : World) (b : Nat) (l : List ByteArray) : Prop := w.heap[b]? = some (.cells (strCells l).toArray T (0, 0))
theorem XBlk.s {T : TypeId} {w : World} {b : Nat} {l : List ByteArray} (h : XBlk T w b l) : SBlk T w b l := ⟨[], by rw [List.append_nil]; exact h⟩
theorem XBlk.lt {T : TypeId} {w : World} {b : Nat} {l : List ByteArray} (h : XBlk T w b l) : b < w.heap.size := h.s.lt
theorem XBlk.cell {T : TypeId} {w : World} {b : Nat} {l : List ByteArray} (h : XBlk T w b l) (k : Nat) (hk : k < l.length) : w.cell? ⟨b, k, none⟩ = some (.string (l[k]'hk)) := h.s.cell k hk
theorem XBlk.frozen {T : TypeId} {w : World} {b : Nat} {l : List ByteArray} (h : XBlk T w b l) (k : Nat) : w.frozen? ⟨b, k, none⟩ = false := h.s.frozen k
theorem XBlk.set {T : TypeId} {w : World} {b : Nat} {l : List ByteArray} (h : XBlk T w b l) (k : Nat) (_hk : k < l.length) (s : ByteArray) : XBlk T (w.setCell ⟨b, k, none⟩ (.string s)) b (l.set k s) := by
  have hlt := (Array.getElem?_eq_some_iff.1 h).1
  have h' : w.heap[b] = .cells (strCells l).toArray T (0, 0) := by
    have := h; unfold XBlk at this; simpa [Array.getElem?_eq_getElem hlt] using this
  show (w.heap.modify b _)[b]? = _
  rw [Array.getElem?_eq_getElem (by simpa using hlt), Array.getElem_modify_self, h']
  simp [strCells, List.map_set]
theorem XBlk.keep {T : TypeId} {w w' : World} {b : Nat} {l : List ByteArray} (h : XBlk T w b l) (hb : Below w.heap.size w w') : XBlk T w' b l := by
  have := hb.block b h.lt; unfold XBlk at *; rw [this]; exact h
theorem XBlk.row {T : TypeId} {w : World} {b c : Nat} {l : List ByteArray} (h : XBlk T w b l) (hc : l.length ≤ c) (hm : c ≤ 9223372036854775807) : SRow w (some ⟨b, 0, none⟩) c l := h.s.row hc hm
theorem XBlk.owns {T : TypeId} {w : World} {b : Nat} {l : List ByteArray} (h : XBlk T w b l) (hm : l.length ≤ maxLen) (B : Nat) (hB : B ≤ b) : w.ownsRow B T 1 (.slice (some ⟨b, 0, none⟩) l.length l.length) l.length (strCells l) := SBlk.owns h hm B hB
theorem xblk_of_made {T : TypeId} {w : World} {base g n : Nat} (h : w.ownsRow base T 1 (.slice (some ⟨g, 0, none⟩) n n) n (madeCells #[Value.string ⟨#[]⟩] n).toList) : XBlk T w g (List.replicate n ⟨#[]⟩) := by
  have := made_heap h
  unfold XBlk strCells
  rw [this, List.map_replicate]
theorem srow_of_ownsT {T : TypeId} {w : World} {base : Nat} {v : Value} {l : List ByteArray} (h : w.ownsRow base T 1 v l.length (strCells l)) : ∃ ao c, v = .slice ao l.length c ∧ SRow w ao c l := by
  rcases h.2 with ⟨rfl, h0⟩ | ⟨g, cap, cur, rfl, -, hg, h1, h2, h3, h4⟩
  · have : l = [] := List.length_eq_zero_iff.1 h0
    subst this
    exact ⟨none, 0, rfl, by simp, by decide, .inl ⟨rfl, fun _ => rfl⟩⟩
  · refine ⟨_, cap, rfl, h1, h2, .inr ⟨g, 0, rfl, (Array.getElem?_eq_some_iff.1 hg).1, fun k hk => ?_⟩⟩
    rw [Nat.zero_add, h.cellAt k (by omega)]
    simp [strCells, hk]
def fillL (g : Nat → ByteArray) (j n : Nat) : List ByteArray := (List.range j).map g ++ List.replicate (n - j) ⟨#[]⟩
theorem fillL_length (g : Nat → ByteArray) {j n : Nat} (h : j ≤ n) : (fillL g j n).length = n := by simp [fillL]; omega
theorem fillL_zero (g : Nat → ByteArray) (n : Nat) : fillL g 0 n = List.replicate n ⟨#[]⟩ := by simp [fillL]
theorem fillL_all (g : Nat → ByteArray) (n : Nat) : fillL g n n = (List.range n).map g := by simp [fillL]
theorem fillL_set (g : Nat → ByteArray) {j n : Nat} (h : j < n) : (fillL g j n).set j (g j) = fillL g (j + 1) n := by
  unfold fillL
  rw [List.set_append_right _ _ (by simp), List.range_succ, List.map_append, List.append_assoc]
  simp only [List.length_map, List.length_range, Nat.sub_self]
  congr 1
  rw [show n - j = (n - (j + 1)) + 1 by omega, List.replicate_succ]
  simp
theorem box2 {w : World} {p : Nat} {u0 u1 : Value} (h0 : w.cell? ⟨p, 0, none⟩ = some u0) (h1 : w.cell? ⟨p, 1, none⟩ = some u1) (v0 v1 : Value) :
    ((w.setCell ⟨p, 0, none⟩ v0).setCell ⟨p, 1, none⟩ v1).cell? ⟨p, 0, none⟩ = some v0 ∧ ((w.setCell ⟨p, 0, none⟩ v0).setCell ⟨p, 1, none⟩ v1).cell? ⟨p, 1, none⟩ = some v1 := by
  have e1 : (w.setCell ⟨p, 0, none⟩ v0).cell? ⟨p, 1, none⟩ = some u1 := (World.cell?_setCell_other w ⟨p, 0, none⟩ ⟨p, 1, none⟩ v0 (by simp)).trans h1
  exact ⟨(World.cell?_setCell_other _ ⟨p, 1, none⟩ ⟨p, 0, none⟩ v1 (by simp)).trans (cellSet h0 v0), cellSet e1 v1⟩
theorem below2 {a w : World} {p : Nat} (h : Below a.heap.size a w) (hp : a.heap.size ≤ p) (v0 v1 : Value) : Below a.heap.size a ((w.setCell ⟨p, 0, none⟩ v0).setCell ⟨p, 1, none⟩ v1) :=
  (h.setCell hp v0).setCell hp v1
def shortS (s : ByteArray) : Bool := shortN (bytes s)
theorem SRow.front {w : World} {ao : Option Addr} {c : Nat} {l : List ByteArray} {k : ByteArray} (h : SRow w ao c (l ++ [k])) : SRow w ao l.length l := by
  have h1 := h.1
  rw [List.length_append] at h1
  refine ⟨Nat.le_refl _, by have := h.2.1; simp at h1; omega, ?_⟩
  rcases h.2.2 with ⟨e, -⟩ | ⟨b, off, e, hlt, hc⟩
  · simp at e
  · exact .inr ⟨b, off, e, hlt, fun j hj => by rw [hc j (by simp; omega), List.getElem_append_left hj]⟩
def exprO (l : List ByteArray) (k : ByteArray) : LOut := if (l ++ [k]).all shortS = true then ⟨l, k, 0⟩ else .bad 10
set_option maxHeartbeats 2000000 in
theorem expression_any (l : List ByteArray) (k : ByteArray) (ao : Option Addr) (c : Nat) (w : World) (hr : SRow w ao c (l ++ [k])) (hz : ∀ s ∈ l ++ [k], s.size ≤ 1200000) (hn : l.length ≤ 1200000) (Bd : Nat) (hB : ∀ a, ao = some a → Bd ≤ a.block) :
    Calls Tryz.prog 46 #[.slice ao (l.length + 1) c] w (LinRet Bd (exprO l k) w) := by
  obtain ⟨b, off, rfl, hb0, -⟩ := hr.get 0 (by simp)
  have HBd := Lib.hid hB; clear hB
  have hg : ∀ W, Below w.heap.size w W → ∀ j (hj : j < (l ++ [k]).length), W.cell? ⟨b, off + j, none⟩ = some (.string ((l ++ [k])[j]'hj)) := fun W hW j hj => by
    obtain ⟨b2, off2, e, -, h⟩ := (hr.mono hW).get j hj
    cases e; exact h
  have hf := hr.front
  have hfr : ∀ W, Below w.heap.size w W → SRow W (some ⟨b, off, none⟩) l.length l := fun W hW => hf.mono hW
  have hlen : (l ++ [k]).length = l.length + 1 := by simp
  have hlast : ∀ W, Below w.heap.size w W → W.cell? ⟨b, off + l.length, none⟩ = some (.string k) := fun W hW => by
    rw [hg W hW l.length (by simp), List.getElem_concat_length rfl]
  have hcap : l.length + 1 ≤ c ∧ c ≤ 9223372036854775807 := by have := hr.1; rw [hlen] at this; exact ⟨this, hr.2.1⟩
  have hO : exprO l k = if (l ++ [k]).all shortS = true then ⟨l, k, 0⟩ else .bad 10 := rfl
  have HG := Lib.hid hg; have HS := Lib.hid hz; have HF := Lib.hid hfr; have HLA := Lib.hid hlast; have HO := Lib.hid hO
  obtain ⟨hc1, hc2⟩ := hcap
  clear hg hz hf hfr hlast hr hb0 hO
  generalize l ++ [k] = m at *
  generalize hnl : l.length = n at hlen hn hc1 ⊢
  have HLEN := Lib.hid hlen; have HNL := Lib.hid hnl; clear hlen hnl
  go_enter Tryz.func46, Tryz.ntmps46
  go_wp2_with fail
  have A0 : Below w.heap.size w (w.alloc (Obj.cells #[.slice none 0 0, .string ⟨#[]⟩] 27)) := (Below.refl _ _).alloc (Nat.le_refl _) _
  have x0 : (w.alloc (Obj.cells #[.slice none 0 0, .string ⟨#[]⟩] 27)).cell? ⟨w.heap.size, 0, none⟩ = some (.slice none 0 0) := by go_cell
  have x1 : (w.alloc (Obj.cells #[.slice none 0 0, .string ⟨#[]⟩] 27)).cell? ⟨w.heap.size, 1, none⟩ = some (.string ⟨#[]⟩) := by go_cell
  have f0 : (w.alloc (Obj.cells #[.slice none 0 0, .string ⟨#[]⟩] 27)).frozen? ⟨w.heap.size, 0, none⟩ = false := by go_cell
  have f1 : (w.alloc (Obj.cells #[.slice none 0 0, .string ⟨#[]⟩] 27)).frozen? ⟨w.heap.size, 1, none⟩ = false := by go_cell
  have s0 : w.heap.size < (w.alloc (Obj.cells #[.slice none 0 0, .string ⟨#[]⟩] 27)).heap.size := by simp
  generalize w.alloc (Obj.cells #[.slice none 0 0, .string ⟨#[]⟩] 27) = W0 at *
  have HX0 := Lib.hid x0; have HX1 := Lib.hid x1; have HF0 := Lib.hid f0; have HF1 := Lib.hid f1; have HS0 := Lib.hid s0; have HA0 := Lib.hid A0
  clear x0 x1 f0 f1 s0 A0
  go_loopw [9] (fun iv wr => ∃ j : Nat, j ≤ n + 1 ∧ iv = .int .i64 j ∧ (m.take j).all shortS = true ∧ Below W0.heap.size W0 wr) (fun iv _ => n + 1 - (intOf iv).toNat)
  case atStart => exact ⟨0, Nat.zero_le _, rfl, rfl, Below.refl _ _⟩
  case round =>
    obtain ⟨j, hj, rfl, hall, hbw⟩ := hrel
    have hbb := Below.chain HA0.out hbw
    have HALL := Lib.hid hall; have HB := Lib.hid hbw; have HBB := Lib.hid hbb; clear hall hbb
    have x0 := (hbw.cell (p := ⟨w.heap.size, 0, none⟩) HS0.out).trans HX0.out
    have x1 := (hbw.cell (p := ⟨w.heap.size, 1, none⟩) HS0.out).trans HX1.out
    have f0 := (hbw.frozen (p := ⟨w.heap.size, 0, none⟩) HS0.out).trans HF0.out
    have f1 := (hbw.frozen (p := ⟨w.heap.size, 1, none⟩) HS0.out).trans HF1.out
    have s1 := Nat.lt_of_lt_of_le HS0.out hbw.size
    clear hbw
    by_cases hlt : j < n + 1
    · have hlt' : j < m.length := by rw [HLEN.out]; exact hlt
      have ck := HG.out wr HBB.out j hlt'
      have hz := HS.out _ (List.getElem_mem hlt')
      have C := isShortN (m[j]'hlt') wr (by omega)
      have hsucc := take_all_succ shortS m j hlt'
      rw [HALL.out, Bool.true_and] at hsucc
      have hbad := take_all_false shortS m j hlt'
      have hdef : shortS (m[j]'hlt') = shortN (bytes (m[j]'hlt')) := rfl
      rw [← hdef] at C
      generalize hbv : shortS (m[j]'hlt') = bv at *
      generalize m[j]'hlt' = sk at *
      have HSU := Lib.hid hsucc
      clear hsucc hdef
      cases bv
      · have hbad2 := hbad rfl
        have KC := Lib.hid C; have HBA2 := Lib.hid hbad2; clear C hbad hbad2
        go_wp2_with (go_at_call 61; refine KC.out.mono ?_; rintro e w3 ⟨rfl, hb3⟩; refine Hid.out ?_)
        have hB3 := Below.chain HB.out hb3
        have y0 := (hB3.cell (p := ⟨w.heap.size, 0, none⟩) HS0.out).trans HX0.out
        have y1 := (hB3.cell (p := ⟨w.heap.size, 1, none⟩) HS0.out).trans HX1.out
        have g0 := (hB3.frozen (p := ⟨w.heap.size, 0, none⟩) HS0.out).trans HF0.out
        have g1 := (hB3.frozen (p := ⟨w.heap.size, 1, none⟩) HS0.out).trans HF1.out
        have s3 := Nat.lt_of_lt_of_le HS0.out hB3.size
        have HB3 := Lib.hid (Below.chain HA0.out hB3)
        clear hb3 hB3 x0 x1 f0 f1 s1 ck
        have q := box2 y0 y1 (.slice none 0 0) (.string ⟨#[]⟩)
        have ho := HO.out
        rw [HBA2.out, if_neg (by decide)] at ho
        have HOO := Lib.hid ho; clear ho HO
        refine Lib.hid ?_
        go_wp2
        obtain ⟨q1, q2⟩ := q
        refine bodyPost_ret (v := .tuple #[.agg #[.slice none 0 0, .string ⟨#[]⟩], .int .i64 10]) (by simp [results, Tryz.results46, go_sem, q1, q2]) rfl ?_
        rw [HOO.out]
        exact ⟨none, 0, rfl, RowB.nil _ _, below2 HB3.out (Nat.le_refl _) _ _⟩
      · have KC := Lib.hid C; clear C hbad
        go_wp2_with (go_at_call 61; refine KC.out.mono ?_; rintro e w3 ⟨rfl, hb3⟩; refine Hid.out ?_)
        refine Lib.hid ?_
        go_wp2
        go_roundw
        case rel => exact ⟨j + 1, by omega, by go_num, HSU.out, Below.chain HB.out hb3⟩
        case measure => simp [intOf]; omega
    · have hjn : j = n + 1 := by omega
      subst hjn
      have ck := HLA.out wr HBB.out
      rw [HNL.out] at ck
      have i1 : IntKind.i64.wrap ((n : Int) + 1 - 1) = n := by rw [IntKind.wrap_i64]; omega
      have q0 : (0 : Int) ≤ (n : Int) := by omega
      have q1 : (n : Int) ≤ (n : Int) + 1 := by omega
      have q2 : (n : Int) ≤ (c : Int) := by omega
      have q := box2 x0 x1 (.slice (some ⟨b, off, none⟩) n n) (.string k)
      have ho := HO.out
      rw [show m.all shortS = true by have h := HALL.out; rwa [List.take_of_length_le (by rw [HLEN.out]; omega)] at h, if_pos rfl] at ho
      have HOO := Lib.hid ho; clear ho HO
      have hfr := HF.out
      rw [HNL.out] at hfr
      have HFR := Lib.hid hfr; clear hfr
      go_wp2_with fail
      go_region
      all_goals
        go_wp2
        obtain ⟨q1, q2⟩ := q
        refine bodyPost_ret (v := .tuple #[.agg #[.slice (some ⟨b, off, none⟩) n n, .string k], .int .i64 0]) (by simp [results, Tryz.results46, go_sem, q1, q2]) rfl ?_
        have hB : Below w.heap.size w (((wr.setCell ⟨w.heap.size, 0, none⟩ (.slice (some ⟨b, off, none⟩) n n)).setCell ⟨w.heap.size, 1, none⟩ (.string k)).drew) := (below2 HBB.out (Nat.le_refl _) _ _).drew
        rw [HOO.out]
        exact ⟨some ⟨b, off, none⟩, n, by rw [HNL.out]; rfl, ⟨HFR.out _ hB, HBd.out⟩, hB⟩
end Go.Proofs.YtjobmkdaaionlaaGreatDoor
